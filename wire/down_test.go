package wire_test

import (
	"math"
	"slices"
	"testing"

	"usufruct/api"
	"usufruct/field"
	"usufruct/wire"
)

// split is what Down is to tell by the words of a field that may be, and a format.
func split(version int, f api.Field) (api.Field, wire.Residue) {
	var r wire.Residue
	if version < 3 {
		r.Epoch = f.Epoch
		f.Epoch = 0
	}
	if version < 2 {
		r.Holds = f.Holds
		f.Holds = nil
	}
	return f, r
}

// P10.2, P10.4: every field that may be, of each format: what it can say, and the rest; both together are what was.
func TestDown(t *testing.T) {
	for i, f := range rightFields() {
		for version := 1; version <= 3; version++ {
			in := f
			in.Holds = guarded(f.Holds)
			left, r, e := wire.Down(version, in)
			want, rest := split(version, f)
			if !alike(left, want) || !alikeResidues(r, rest) || e != api.OK {
				t.Fatalf("Down(%d, field %d, %q): %v, %v, %d; want %v, %v", version, i, f.Name, left, r, e, want, rest)
			}
			if !field.Right(left) || !wire.Says(version, left) {
				t.Fatalf("Down(%d, field %d): what is left can't be said", version, i)
			}
			if wire.Says(version, f) != alikeResidues(r, wire.Residue{}) {
				t.Fatalf("Down(%d, field %d): the residue is %v", version, i, r)
			}
			if up, e := wire.Up(left, r); !alike(up, f) || e != api.OK {
				t.Fatalf("Up of Down(%d, field %d): %v, %d", version, i, up, e)
			}
			scribble(left.Holds)
			scribble(r.Holds)
			if !untouched(in.Holds, f.Holds) {
				t.Fatalf("Down(%d, field %d) has changed it, or shares it", version, i)
			}
		}
	}
}

// P10.2: numbers that are no format; a field that may not be comes first.
func TestDownWrong(t *testing.T) {
	for _, version := range versions() {
		for i, f := range rightFields() {
			if isFormat(version) {
				continue
			}
			if left, r, e := wire.Down(version, f); !alike(left, api.Field{}) || !alikeResidues(r, wire.Residue{}) || e != api.ErrVersion {
				t.Fatalf("Down(%d, field %d): %v, %v, %d", version, i, left, r, e)
			}
		}
		for i, f := range wrongFields() {
			if left, r, e := wire.Down(version, f); !alike(left, api.Field{}) || !alikeResidues(r, wire.Residue{}) || e != api.ErrArg {
				t.Fatalf("Down(%d, wrong field %d): %v, %v, %d", version, i, left, r, e)
			}
		}
	}
}

// P10.2: by hand: each format, of a counter and of a lock.
func TestDownByHand(t *testing.T) {
	holds := heldBy(16)
	both := with(fresh(), func(f *api.Field) { f.Epoch, f.Holds = most, holds })
	late := with(fresh(), func(f *api.Field) { f.Epoch = most })
	held := with(fresh(), func(f *api.Field) { f.Holds = holds })
	lateLock := with(locked(), func(f *api.Field) { f.Epoch = 3 })
	for i, c := range []struct {
		version int
		f, left api.Field
		r       wire.Residue
	}{
		{1, both, fresh(), wire.Residue{Epoch: most, Holds: holds}},
		{2, both, held, wire.Residue{Epoch: most}},
		{3, both, both, wire.Residue{}},
		{1, held, fresh(), wire.Residue{Holds: holds}},
		{2, held, held, wire.Residue{}},
		{1, late, fresh(), wire.Residue{Epoch: most}},
		{2, late, fresh(), wire.Residue{Epoch: most}},
		{3, late, late, wire.Residue{}},
		{1, lateLock, locked(), wire.Residue{Epoch: 3}},
		{2, lateLock, locked(), wire.Residue{Epoch: 3}},
		{3, lateLock, lateLock, wire.Residue{}},
		{1, fresh(), fresh(), wire.Residue{}},
	} {
		if left, r, e := wire.Down(c.version, c.f); !alike(left, c.left) || !alikeResidues(r, c.r) || e != api.OK {
			t.Errorf("Down %d: %v, %v, %d", i, left, r, e)
		}
		if up, e := wire.Up(c.left, c.r); !alike(up, c.f) || e != api.OK {
			t.Errorf("Up %d: %v, %d", i, up, e)
		}
	}
}

// residues are all pairs of these epochs and holds: those that may be, and those that may not.
func residues() []wire.Residue {
	unsorted := heldBy(4)
	slices.Reverse(unsorted)
	wrongState := heldBy(3)
	wrongState[1].State = 4
	var all []wire.Residue
	for _, epoch := range []int{0, 1, 2, most - 1, most, most + 1, -1, -most, math.MaxInt, math.MinInt} {
		for _, l := range [][]api.Hold{nil, {}, heldBy(1), heldBy(2), heldBy(15), heldBy(16), heldBy(17), unsorted, wrongState, {{}}, slices.Repeat(heldBy(1), 2)} {
			all = append(all, wire.Residue{Epoch: epoch, Holds: l})
		}
	}
	return all
}

// joined is what Up is to tell by the words.
func joined(f api.Field, r wire.Residue) (api.Field, api.Errno) {
	switch {
	case !field.Right(f):
		return api.Field{}, api.ErrArg
	case r.Epoch != 0 && f.Epoch != 0:
		return api.Field{}, api.ErrArg
	case len(r.Holds) != 0 && len(f.Holds) != 0:
		return api.Field{}, api.ErrArg
	}
	if r.Epoch != 0 {
		f.Epoch = r.Epoch
	}
	if len(r.Holds) != 0 {
		f.Holds = r.Holds
	}
	if !field.Right(f) {
		return api.Field{}, api.ErrForm
	}
	return f, api.OK
}

// P10.2: fields that may be, and that may not, with residues that may be, and that may not.
func TestUp(t *testing.T) {
	told := map[api.Errno]int{}
	for i, f := range slices.Concat(plain(), outer(), wrongFields()) {
		for j, r := range residues() {
			in, rest := f, r
			in.Holds, rest.Holds = guarded(f.Holds), guarded(r.Holds)
			want, e := joined(f, r)
			got, g := wire.Up(in, rest)
			if !alike(got, want) || g != e {
				t.Fatalf("Up(field %d, residue %d): %v, %d; want %v, %d", i, j, got, g, want, e)
			}
			scribble(got.Holds)
			if !untouched(in.Holds, f.Holds) || !untouched(rest.Holds, r.Holds) {
				t.Fatalf("Up(field %d, residue %d) has changed them, or shares them", i, j)
			}
			told[g]++
		}
	}
	for _, e := range []api.Errno{api.OK, api.ErrArg, api.ErrForm} {
		if told[e] < 100 {
			t.Errorf("told %d: %d times", e, told[e])
		}
	}
}

// P10.2: by hand: what Up refuses, the error of the words' first.
func TestUpByHand(t *testing.T) {
	late := with(fresh(), func(f *api.Field) { f.Epoch = 2 })
	held := with(fresh(), func(f *api.Field) { f.Holds = heldBy(1) })
	lateLock := with(locked(), func(f *api.Field) { f.Epoch = 2 })
	for i, c := range []struct {
		f api.Field
		r wire.Residue
		e api.Errno
	}{
		{api.Field{}, wire.Residue{}, api.ErrArg},
		{late, wire.Residue{Epoch: 2}, api.ErrArg},
		{late, wire.Residue{Epoch: -1}, api.ErrArg},
		{late, wire.Residue{Epoch: -2}, api.ErrArg},
		{late, wire.Residue{}, api.OK},
		{late, wire.Residue{Holds: heldBy(1)}, api.OK},
		{late, wire.Residue{Epoch: 1, Holds: heldBy(17)}, api.ErrArg},
		{late, wire.Residue{Holds: heldBy(17)}, api.ErrForm},
		{held, wire.Residue{}, api.OK},
		{held, wire.Residue{Epoch: 5}, api.OK},
		{held, wire.Residue{Epoch: -5}, api.ErrForm},
		{held, wire.Residue{Holds: []api.Hold{{Replica: 9, Number: 1, State: 1}}}, api.ErrArg},
		{held, wire.Residue{Epoch: -1, Holds: heldBy(1)}, api.ErrArg},
		{fresh(), wire.Residue{Epoch: most, Holds: heldBy(16)}, api.OK},
		{fresh(), wire.Residue{Epoch: most + 1}, api.ErrForm},
		{fresh(), wire.Residue{Holds: heldBy(17)}, api.ErrForm},
		{locked(), wire.Residue{Epoch: 9}, api.OK},
		{locked(), wire.Residue{Holds: heldBy(1)}, api.ErrForm},
		{locked(), wire.Residue{Holds: []api.Hold{}}, api.OK},
		{lateLock, wire.Residue{Holds: heldBy(1)}, api.ErrForm},
		{lateLock, wire.Residue{Epoch: 1, Holds: heldBy(1)}, api.ErrArg},
	} {
		if f, e := wire.Up(c.f, c.r); e != c.e || e != api.OK && !alike(f, api.Field{}) {
			t.Errorf("Up %d: %v, %d; want %d", i, f, e, c.e)
		}
	}
}
