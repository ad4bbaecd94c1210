package plan_test

import (
	"math"
	"slices"
	"testing"

	"usufruct/api"
	"usufruct/field"
	"usufruct/plan"
)

// place is where the only field of a name is, below 0 if there is none.
func place(l []api.Field, name string) int {
	return slices.IndexFunc(l, func(f api.Field) bool { return f.Name == name })
}

// rises is the section 'Words' of fields.
func rises(l []api.Field) bool {
	for i, f := range l {
		if !field.Right(f) || i > 0 && !(l[i-1].Name < f.Name) {
			return false
		}
	}
	return len(l) <= 4
}

// about is the fields of l that a plan that may be is about, that of its Name first.
func about(l []api.Field, p api.Plan) []api.Field {
	some := []api.Field{l[place(l, p.Name)]}
	if p.Kind == api.Merge {
		some = append(some, l[place(l, p.Other)])
	}
	return some
}

// fitting is P13.2's Fits, word for word.
func fitting(l []api.Field, p api.Plan) api.Errno {
	if !rises(l) {
		return api.ErrArg
	}
	if !mayBe(p) {
		return api.ErrPlan
	}
	if place(l, p.Name) < 0 || p.Kind == api.Merge && place(l, p.Other) < 0 {
		return api.ErrNone
	}
	if p.Kind == api.Split {
		if place(l, p.Other) >= 0 {
			return api.ErrThere
		}
		if len(l) >= 4 {
			return api.ErrFull
		}
	}
	kind := api.IsCounter
	if p.Kind == api.ToCount {
		kind = api.IsLock
	}
	for _, f := range about(l, p) {
		if f.Kind != kind {
			return api.ErrKind
		}
	}
	for _, f := range about(l, p) {
		for _, h := range f.Holds {
			if h.State == api.Held {
				return api.ErrState
			}
		}
	}
	return api.OK
}

// fits holds Fits against the document's words, and looks at what it was handed.
func fits(t *testing.T, l []api.Field, p api.Plan) api.Errno {
	t.Helper()
	in := guarded(l)
	got, want := plan.Fits(in, p), fitting(l, p)
	if got != want {
		t.Fatalf("Fits of %v, %v: %d; want %d", brief(l), p, got, want)
	}
	if !untouched(in, l) {
		t.Fatalf("Fits of %v, %v has changed what it was given", brief(l), p)
	}
	return got
}

// four are fields of both kinds.
func four() []api.Field {
	return []api.Field{count("a", 1, 7, 0, 10), worn("b", 2, 0, -1, -2, 3), passed("c", 3, 6), worn("d", 0, 5, 5, 5, 9)}
}

// without is l without the fields of those names.
func without(l []api.Field, names ...string) []api.Field {
	return slices.DeleteFunc(slices.Clone(l), func(f api.Field) bool { return slices.Contains(names, f.Name) })
}

// in is l with f in the place of the field of its name.
func in(l []api.Field, f api.Field) []api.Field {
	l = slices.Clone(l)
	l[place(l, f.Name)] = f
	return l
}

// six are plans, one of each kind, that fit fields a, b and c of four.
func six() []api.Plan {
	return []api.Plan{
		{Kind: api.Tighten, Name: "a", A: 1, B: 1},
		{Kind: api.Loosen, Name: "a", A: 1, B: 1},
		{Kind: api.ToLock, Name: "a"},
		{Kind: api.ToCount, Name: "c", A: 0, B: 9},
		{Kind: api.Split, Name: "a", Other: "x", A: 4},
		{Kind: api.Merge, Name: "a", Other: "b"},
	}
}

// P13.2: each kind, on none, one, two, three and four fields.
func TestFitsOfEachKind(t *testing.T) {
	for i, want := range [][]api.Errno{
		{api.ErrNone, api.ErrNone, api.ErrNone, api.ErrNone, api.ErrNone, api.ErrNone},
		{api.OK, api.OK, api.OK, api.ErrNone, api.OK, api.ErrNone},
		{api.OK, api.OK, api.OK, api.ErrNone, api.OK, api.OK},
		{api.OK, api.OK, api.OK, api.OK, api.OK, api.OK},
		{api.OK, api.OK, api.OK, api.OK, api.ErrFull, api.OK},
	} {
		for j, p := range six() {
			if e := fits(t, four()[:i], p); e != want[j] {
				t.Errorf("Fits of %d fields, %v: %d; want %d", i, p, e, want[j])
			}
		}
	}
	for _, p := range six() {
		if e := plan.Fits([]api.Field{}, p); e != api.ErrNone {
			t.Errorf("Fits of no field, %v: %d", p, e)
		}
	}
}

// P13.2: fields of the other kind, each that the plan is about.
func TestFitsOfKinds(t *testing.T) {
	l := without(four(), "d")
	for _, c := range []struct {
		p    api.Plan
		want api.Errno
	}{
		{api.Plan{Kind: api.Tighten, Name: "c", A: 1}, api.ErrKind},
		{api.Plan{Kind: api.Loosen, Name: "c", A: 1}, api.ErrKind},
		{api.Plan{Kind: api.ToLock, Name: "c"}, api.ErrKind},
		{api.Plan{Kind: api.ToCount, Name: "a", B: 9}, api.ErrKind},
		{api.Plan{Kind: api.ToCount, Name: "c", B: 9}, api.OK},
		{api.Plan{Kind: api.Split, Name: "c", Other: "x", A: 1}, api.ErrKind},
		{api.Plan{Kind: api.Merge, Name: "a", Other: "c"}, api.ErrKind},
		{api.Plan{Kind: api.Merge, Name: "c", Other: "a"}, api.ErrKind},
		{api.Plan{Kind: api.Merge, Name: "b", Other: "a"}, api.OK},
	} {
		if e := fits(t, l, c.p); e != c.want {
			t.Errorf("Fits of %v: %d; want %d", c.p, e, c.want)
		}
	}
}

// P13.2: names that no field has, of each plan the one and the other one.
func TestFitsOfNames(t *testing.T) {
	for _, p := range six() {
		for _, name := range []string{"A", "aa", "e", "12345678"} {
			q := p
			q.Name = name
			if e := fits(t, four(), q); e != api.ErrNone {
				t.Errorf("Fits of %v: %d", q, e)
			}
		}
	}
	for _, c := range []struct {
		p    api.Plan
		want api.Errno
	}{
		{api.Plan{Kind: api.Merge, Name: "a", Other: "x"}, api.ErrNone},
		{api.Plan{Kind: api.Merge, Name: "x", Other: "a"}, api.ErrNone},
		{api.Plan{Kind: api.Merge, Name: "x", Other: "y"}, api.ErrNone},
		{api.Plan{Kind: api.Split, Name: "x", Other: "y", A: 1}, api.ErrNone},
		{api.Plan{Kind: api.Split, Name: "a", Other: "b", A: 1}, api.ErrThere},
		{api.Plan{Kind: api.Split, Name: "b", Other: "a", A: 1}, api.ErrThere},
		{api.Plan{Kind: api.Split, Name: "a", Other: "c", A: 1}, api.ErrThere},
	} {
		for _, l := range [][]api.Field{without(four(), "d"), four()} {
			if e := fits(t, l, c.p); e != c.want {
				t.Errorf("Fits of %v: %d; want %d", c.p, e, c.want)
			}
		}
	}
}

// P13.2: a hold that is Held, ahead of others and behind them, on each field that a plan is about; those that are Kept and Gone, and those of other fields, are in nobody's way.
func TestFitsWithHolds(t *testing.T) {
	for _, c := range []struct {
		states []int
		is     bool
	}{
		{[]int{api.Held}, true},
		{[]int{api.Kept}, false},
		{[]int{api.Gone}, false},
		{[]int{api.Kept, api.Gone, api.Held}, true},
		{[]int{api.Held, api.Gone, api.Kept}, true},
		{[]int{api.Gone, api.Held, api.Held}, true},
		{slices.Repeat([]int{api.Kept, api.Gone}, 8), false},
		{append(slices.Repeat([]int{api.Gone}, 15), api.Held), true},
	} {
		for _, p := range six() {
			for _, f := range without(four(), "c", "d") {
				want := api.OK
				if c.is && f.Kind == api.IsCounter && (f.Name == p.Name || f.Name == p.Other) {
					want = api.ErrState
				}
				if e := fits(t, in(without(four(), "d"), holding(f, c.states...)), p); e != want {
					t.Errorf("Fits of %v with holds %v of %s: %d; want %d", p, c.states, f.Name, e, want)
				}
			}
		}
	}
	held := in(in(without(four(), "d"), holding(four()[0], api.Held)), holding(four()[1], api.Held))
	for i, want := range []api.Errno{api.ErrState, api.ErrState, api.ErrState, api.OK, api.ErrState, api.ErrState} {
		if e := fits(t, held, six()[i]); e != want {
			t.Errorf("Fits of %v with two that are held: %d", six()[i], e)
		}
	}
}

// P13.2: fields that may not be, of each reason, ahead of all else; and plans that may not.
func TestFitsOfWhatMayNotBe(t *testing.T) {
	for i, wrong := range wrongFields() {
		for _, p := range append(six(), api.Plan{}, api.Plan{Kind: api.Merge, Name: "a", Other: "a"}) {
			if e := fits(t, []api.Field{wrong}, p); e != api.ErrArg {
				t.Errorf("Fits of wrong field %d, %v: %d", i, p, e)
			}
			if e := fits(t, []api.Field{count("!", 0, 1, 1, 1), wrong}, p); e != api.ErrArg {
				t.Errorf("Fits of wrong field %d behind another one, %v: %d", i, p, e)
			}
		}
	}
	for _, l := range [][]api.Field{
		{four()[1], four()[0]}, {four()[0], four()[0]}, append(four(), locked("e", 0, 0)), {four()[0], four()[2], four()[1]},
	} {
		for _, p := range append(six(), api.Plan{}) {
			if e := fits(t, l, p); e != api.ErrArg {
				t.Errorf("Fits of %v, %v: %d", brief(l), p, e)
			}
		}
	}
	for _, p := range []api.Plan{
		{}, {Kind: 0, Name: "a"}, {Kind: 7, Name: "a"}, {Kind: -1, Name: "a"}, {Kind: math.MaxInt, Name: "a"}, {Kind: math.MinInt, Name: "a"},
		{Kind: api.Tighten, Name: "a"}, {Kind: api.Tighten, Name: "a", A: -1, B: 2}, {Kind: api.Loosen, Name: "a", A: most + 1}, {Kind: api.Loosen, Name: "a", B: math.MinInt},
		{Kind: api.ToLock, Name: "a", A: 1}, {Kind: api.ToLock, Name: "a", Other: "b"}, {Kind: api.ToCount, Name: "c", A: 1}, {Kind: api.ToCount, Name: "c", Other: "a", B: 1},
		{Kind: api.Split, Name: "a", A: 1}, {Kind: api.Split, Name: "a", Other: "a", A: 1}, {Kind: api.Split, Name: "a", Other: "x"}, {Kind: api.Split, Name: "a", Other: "x", A: math.MaxInt},
		{Kind: api.Merge, Name: "a"}, {Kind: api.Merge, Name: "a", Other: "a"}, {Kind: api.Merge, Name: "a", Other: "b", B: 1}, {Kind: api.Merge, Name: "a", Other: "123456789"},
		{Kind: api.Merge, Name: "", Other: "b"}, {Kind: api.Tighten, Name: "123456789", A: 1},
	} {
		for n := range 5 {
			if e := fits(t, four()[:n], p); e != api.ErrPlan {
				t.Errorf("Fits of %d fields, %v: %d", n, p, e)
			}
		}
	}
}

// P13.2: where several errors would be, the one that the words name first.
func TestFitsFirstError(t *testing.T) {
	held := holding(four()[0], api.Held)
	c := passed("a", 0, 7)
	for i, c := range []struct {
		l    []api.Field
		p    api.Plan
		want api.Errno
	}{
		// ErrNone, ahead of ErrThere, ErrFull, ErrKind and ErrState.
		{four(), api.Plan{Kind: api.Split, Name: "x", Other: "a", A: 1}, api.ErrNone},
		{four(), api.Plan{Kind: api.Split, Name: "x", Other: "y", A: 1}, api.ErrNone},
		{four(), api.Plan{Kind: api.Merge, Name: "c", Other: "x"}, api.ErrNone},
		{four(), api.Plan{Kind: api.Merge, Name: "x", Other: "c"}, api.ErrNone},
		{in(four(), held), api.Plan{Kind: api.Merge, Name: "a", Other: "x"}, api.ErrNone},
		// ErrThere, ahead of ErrFull, ErrKind and ErrState.
		{four(), api.Plan{Kind: api.Split, Name: "a", Other: "b", A: 1}, api.ErrThere},
		{four()[:3], api.Plan{Kind: api.Split, Name: "c", Other: "b", A: 1}, api.ErrThere},
		{in(four(), held), api.Plan{Kind: api.Split, Name: "a", Other: "d", A: 1}, api.ErrThere},
		// ErrFull, ahead of ErrKind and ErrState.
		{four(), api.Plan{Kind: api.Split, Name: "c", Other: "x", A: 1}, api.ErrFull},
		{in(four(), held), api.Plan{Kind: api.Split, Name: "a", Other: "x", A: 1}, api.ErrFull},
		{four()[:3], api.Plan{Kind: api.Split, Name: "c", Other: "x", A: 1}, api.ErrKind},
		// ErrKind, ahead of ErrState, whichever field has which.
		{in(four(), held), api.Plan{Kind: api.Merge, Name: "a", Other: "c"}, api.ErrKind},
		{in(four(), held), api.Plan{Kind: api.Merge, Name: "c", Other: "a"}, api.ErrKind},
		{[]api.Field{c, holding(four()[1], api.Held)}, api.Plan{Kind: api.Merge, Name: "b", Other: "a"}, api.ErrKind},
		{[]api.Field{held}, api.Plan{Kind: api.ToCount, Name: "a", B: 9}, api.ErrKind},
		// All else: a Split is about its Name alone, and what is held by others is in nobody's way.
		{in(four(), held), api.Plan{Kind: api.Merge, Name: "b", Other: "d"}, api.OK},
		{[]api.Field{held, four()[1]}, api.Plan{Kind: api.Split, Name: "b", Other: "c", A: 1}, api.OK},
	} {
		if e := fits(t, c.l, c.p); e != c.want {
			t.Errorf("Fits %d of %v: %d; want %d", i, c.p, e, c.want)
		}
	}
}
