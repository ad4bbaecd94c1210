package wire_test

import (
	"math"
	"slices"
	"strconv"
	"strings"
	"testing"

	"usufruct/api"
	"usufruct/field"
	"usufruct/wire"
)

const most = 1 << 40

// versions: the three formats, what lies beside them, and the outermost ints.
func versions() []int {
	return []int{1, 2, 3, 0, 4, -1, -2, -3, 5, 6, 255, 256, 257, 1<<32 + 1, most, most + 1, -most, math.MaxInt, math.MinInt, math.MinInt + 1}
}

func isFormat(version int) bool {
	return version == 1 || version == 2 || version == 3
}

// says tells by the words whether a format can say a field that may be.
func says(version int, f api.Field) bool {
	switch version {
	case 1:
		return f.Epoch == 0 && len(f.Holds) == 0
	case 2:
		return f.Epoch == 0
	}
	return version == 3
}

// digits is numbers' bytes by the words, written down bit by bit.
func digits(l ...int) string {
	var row []byte
	for _, n := range l {
		u := 2 * n
		if n < 0 {
			u = 2*(-1-n) + 1
		}
		bits := strconv.FormatInt(int64(u), 2)
		for len(bits) > 7 {
			c, _ := strconv.ParseUint("1"+bits[len(bits)-7:], 2, 8)
			row = append(row, byte(c))
			bits = bits[:len(bits)-7]
		}
		c, _ := strconv.ParseUint(bits, 2, 8)
		row = append(row, byte(c))
	}
	return string(row)
}

func saidRights(r api.Rights) string {
	s := digits(r.Given[:]...) + digits(r.Used[:]...)
	for _, v := range r.Moved {
		s += digits(v[:]...)
	}
	return s
}

func saidHolds(l []api.Hold) string {
	s := digits(len(l))
	for _, h := range l {
		s += digits(h.Replica, h.Number, h.Amount, h.Due, h.State)
	}
	return s
}

// said is a field's bytes by the words, also those of a field that may not be, of which no number is too great.
func said(version int, f api.Field) string {
	s := digits(version, f.Kind, len(f.Name)) + f.Name
	if version == 3 {
		s += digits(f.Epoch)
	}
	switch f.Kind {
	case 1:
		s += digits(f.Counter.Init, f.Counter.Low, f.Counter.High) + saidRights(f.Counter.Down) + saidRights(f.Counter.Up)
		if version != 1 {
			s += saidHolds(f.Holds)
		}
	case 2:
		s += digits(f.Lock.Seq, f.Lock.Ver, f.Lock.Holder, f.Lock.Value)
	}
	return s
}

// fresh is a new counter of 5, from 0 to 10.
func fresh() api.Field {
	return api.Field{Name: "a", Kind: api.IsCounter, Counter: of(0, 5, 10)}
}

// of is a counter that is new; replica 0 has all rights.
func of(low, init, high int) api.Counter {
	c := api.Counter{Init: init, Low: low, High: high}
	c.Down.Given[0], c.Up.Given[0] = init-low, high-init
	return c
}

// marked has another number at each place at which it can have any, and bounds to which these fit.
func marked() api.Field {
	f := api.Field{Name: "marked!~", Kind: api.IsCounter, Epoch: 901}
	mark(&f.Counter.Down, 1)
	mark(&f.Counter.Up, 501)
	f.Counter.Init = -9999
	bind(&f.Counter)
	f.Holds = []api.Hold{
		{Replica: 0, Number: 1001, Amount: 1002, Due: 1003, State: api.Held},
		{Replica: 0, Number: 1004, Amount: 1005, Due: 1006, State: api.Gone},
		{Replica: 3, Number: 1007, Amount: 1008, Due: 1009, State: api.Kept},
		{Replica: 15, Number: 1010, Amount: 1011, Due: 1012, State: api.Gone},
	}
	return f
}

// mark puts another number, from n on, at each place of rights, but what a replica would move to itself.
func mark(r *api.Rights, n int) {
	for i := range 16 {
		r.Given[i], r.Used[i] = n+100000, n+1
		n += 2
		for k := range 16 {
			if k != i {
				r.Moved[i][k] = n
				n++
			}
		}
	}
}

func vecsOf(all *[16]api.Vec) []*api.Vec {
	var l []*api.Vec
	for i := range all {
		l = append(l, &all[i])
	}
	return l
}

func sum(v api.Vec) int {
	n := 0
	for _, m := range v {
		n += m
	}
	return n
}

// bind gives a counter the bounds that fit what was given and used.
func bind(c *api.Counter) {
	c.Low = c.Init - (sum(c.Down.Given) - sum(c.Up.Used))
	c.High = c.Init + (sum(c.Up.Given) - sum(c.Down.Used))
}

// locked is a lock of replica 3, that was passed on and written.
func locked() api.Field {
	return api.Field{Name: "l", Kind: api.IsLock, Lock: api.Lock{Seq: 4, Ver: 6, Holder: 3, Value: -8}}
}

// heldBy is n holds that may be, the last ones of replica 5.
func heldBy(n int) []api.Hold {
	var l []api.Hold
	for i := range n {
		l = append(l, api.Hold{Replica: max(0, 5-n+1+i), Number: i + 1, Amount: i % 2, Due: 10 * i, State: 1 + i%3})
	}
	return l
}

// with is f, changed.
func with(f api.Field, change func(*api.Field)) api.Field {
	f.Holds = slices.Clone(f.Holds)
	change(&f)
	return f
}

// plain are ordinary fields: counters and locks, of epoch 0 and of another one, with holds and without.
func plain() []api.Field {
	var all []api.Field
	for _, epoch := range []int{0, 1, 77} {
		for _, f := range []api.Field{fresh(), marked(), locked()} {
			all = append(all, with(f, func(f *api.Field) { f.Epoch = epoch }))
			if f.Kind == api.IsCounter {
				all = append(all, with(f, func(f *api.Field) { f.Epoch, f.Holds = epoch, nil }), with(f, func(f *api.Field) { f.Epoch, f.Holds = epoch, heldBy(2) }))
			}
		}
	}
	return all
}

// outer are fields at the edges of what may be.
func outer() []api.Field {
	var all []api.Field
	for _, name := range []string{"!", "~", "abcdefgh", "~!~!~!~!"} {
		all = append(all, with(fresh(), func(f *api.Field) { f.Name = name }), with(locked(), func(f *api.Field) { f.Name = name }))
	}
	for _, epoch := range []int{0, 1, 63, 64, most - 1, most} {
		all = append(all, with(fresh(), func(f *api.Field) { f.Epoch = epoch }), with(locked(), func(f *api.Field) { f.Epoch = epoch }))
		for _, n := range []int{0, 1, 15, 16} {
			all = append(all, with(fresh(), func(f *api.Field) { f.Epoch, f.Holds = epoch, append([]api.Hold{}, heldBy(n)...) }))
		}
	}
	for _, c := range []api.Counter{{}, of(0, 0, most), of(0, most, most), of(-most, -most, 0), of(-most, 0, 0), of(-most, 0, most), of(most, most, most), of(-most, -most, -most), of(0, 1, most), of(-1, 0, 1)} {
		all = append(all, with(fresh(), func(f *api.Field) { f.Counter = c }))
	}
	for _, h := range []api.Hold{{Replica: 0, Number: 1, State: api.Held}, {Replica: 15, Number: most, Amount: most, Due: most, State: api.Gone}, {Replica: 7, Number: most - 1, Amount: 0, Due: most, State: api.Kept}} {
		all = append(all, with(fresh(), func(f *api.Field) { f.Holds = []api.Hold{h} }))
	}
	for _, n := range []int{0, 1, most - 1, most} {
		for holder := range 16 {
			all = append(all, with(locked(), func(f *api.Field) { f.Lock = api.Lock{Seq: n, Ver: most - n, Holder: holder, Value: n} }), with(locked(), func(f *api.Field) { f.Lock = api.Lock{Seq: most - n, Ver: n, Holder: holder, Value: -n} }))
		}
	}
	return append(all, with(locked(), func(f *api.Field) { f.Lock = api.Lock{} }), with(locked(), func(f *api.Field) { f.Holds = []api.Hold{} }))
}

// placed are counters that have a great number at one place of a vector each, at all of them.
func placed() []api.Field {
	var all []api.Field
	for which := range 2 {
		for v := range 18 {
			for i := range 16 {
				f := fresh()
				r := []*api.Rights{&f.Counter.Down, &f.Counter.Up}[which]
				vec := append([]*api.Vec{&r.Given, &r.Used}, vecsOf(&r.Moved)...)[v]
				if v-2 == i {
					continue
				}
				f.Counter.Down.Given[0], f.Counter.Up.Given[0] = 4000, 4000
				vec[i] = 3000 + 16*v + i
				if v > 1 {
					vec[i] = most - 16*v - i
				}
				bind(&f.Counter)
				all = append(all, f)
			}
		}
	}
	return all
}

// rightFields may be.
func rightFields() []api.Field {
	return slices.Concat(plain(), outer(), placed())
}

// saidWrong are fields that may not be, each by one thing alone, none of it too great to be said as a number, nor a name too long.
func saidWrong() []api.Field {
	var all []api.Field
	for _, f := range []api.Field{fresh(), marked(), locked()} {
		for _, name := range []string{"", "a b", "\x7f", "\xff", "é", "\x00", "a\n", " "} {
			all = append(all, with(f, func(f *api.Field) { f.Name = name }))
		}
		for _, epoch := range []int{-1, -2, -most} {
			all = append(all, with(f, func(f *api.Field) { f.Epoch = epoch }))
		}
		for _, kind := range []int{0, 3, -1, -2, most, -most} {
			all = append(all, with(f, func(f *api.Field) { f.Kind = kind }))
		}
	}
	return append(all,
		api.Field{}, api.Field{Name: "a"}, api.Field{Kind: api.IsCounter}, api.Field{Kind: api.IsLock},
		with(fresh(), func(f *api.Field) { f.Counter.Init = 11 }),
		with(fresh(), func(f *api.Field) { f.Counter.High++ }),
		with(fresh(), func(f *api.Field) { f.Counter.Low-- }),
		with(fresh(), func(f *api.Field) { f.Counter = of(6, 5, 10) }),
		with(fresh(), func(f *api.Field) { f.Counter.Down.Given[15] = 1 }),
		with(fresh(), func(f *api.Field) { f.Counter.Down.Given[0] = -1 }),
		with(fresh(), func(f *api.Field) { f.Counter.Down.Used[0] = most }),
		with(fresh(), func(f *api.Field) { f.Counter.Up.Used[15] = 1 }),
		with(marked(), func(f *api.Field) { f.Counter.Up.Moved[3][4] = -1 }),
		with(marked(), func(f *api.Field) { f.Counter.Down.Moved[15][15] = 1 }),
		with(fresh(), func(f *api.Field) { f.Counter.Up.Moved[0][0] = 1 }),
		with(fresh(), func(f *api.Field) { f.Holds = slices.Repeat(heldBy(1), 2) }),
		with(marked(), func(f *api.Field) { f.Holds[0].Amount = -1 }),
		with(marked(), func(f *api.Field) { f.Holds[1].State = 4 }),
		with(marked(), func(f *api.Field) { f.Holds[1].State = 0 }),
		with(marked(), func(f *api.Field) { f.Holds[3].Replica = 16 }),
		with(marked(), func(f *api.Field) { f.Holds[0].Replica = -1 }),
		with(marked(), func(f *api.Field) { f.Holds[0].Number = 0 }),
		with(marked(), func(f *api.Field) { f.Holds[2].Due = -1 }),
		with(marked(), func(f *api.Field) { slices.Reverse(f.Holds) }),
		with(locked(), func(f *api.Field) { f.Lock.Holder = 16 }),
		with(locked(), func(f *api.Field) { f.Lock.Holder = -1 }),
		with(locked(), func(f *api.Field) { f.Lock.Seq = -1 }),
		with(locked(), func(f *api.Field) { f.Lock.Ver = -1 }),
	)
}

// wrongFields may not be: those of saidWrong, and others, which have no bytes at all.
func wrongFields() []api.Field {
	all := saidWrong()
	for _, f := range []api.Field{fresh(), marked(), locked()} {
		for _, epoch := range []int{most + 1, -most - 1, math.MaxInt, math.MinInt} {
			all = append(all, with(f, func(f *api.Field) { f.Epoch = epoch }))
		}
		for _, kind := range []int{most + 1, math.MaxInt, math.MinInt} {
			all = append(all, with(f, func(f *api.Field) { f.Kind = kind }))
		}
		for _, n := range []int{9, 300, 70000} {
			all = append(all, with(f, func(f *api.Field) { f.Name = strings.Repeat("x", n) }))
		}
	}
	return append(all,
		with(fresh(), func(f *api.Field) { f.Kind = api.IsLock }),
		with(marked(), func(f *api.Field) { f.Kind = api.IsLock }),
		with(locked(), func(f *api.Field) { f.Kind = api.IsCounter }),
		with(fresh(), func(f *api.Field) { f.Lock.Seq = 1 }),
		with(marked(), func(f *api.Field) { f.Lock.Value = -1 }),
		with(fresh(), func(f *api.Field) { f.Lock.Holder = 15 }),
		with(fresh(), func(f *api.Field) { f.Lock.Ver = 1 }),
		with(fresh(), func(f *api.Field) { f.Holds = heldBy(17) }),
		with(fresh(), func(f *api.Field) { f.Holds = make([]api.Hold, 70000) }),
		with(locked(), func(f *api.Field) { f.Holds = heldBy(1) }),
		with(locked(), func(f *api.Field) { f.Counter = of(0, 0, 1) }),
		with(locked(), func(f *api.Field) { f.Counter.Up.Moved[15][15] = 1 }),
		with(locked(), func(f *api.Field) { f.Lock.Value = most + 1 }),
		with(locked(), func(f *api.Field) { f.Lock.Value = -most - 1 }),
		with(locked(), func(f *api.Field) { f.Lock.Seq = most + 1 }),
		with(locked(), func(f *api.Field) { f.Lock.Ver = math.MaxInt }),
		with(fresh(), func(f *api.Field) { f.Counter.Down.Given[0] = math.MinInt }),
		with(fresh(), func(f *api.Field) { f.Counter.Down.Moved[1][0] = math.MaxInt }),
		with(fresh(), func(f *api.Field) { f.Counter.Up.Moved[1][0] = most + 1 }),
		with(fresh(), func(f *api.Field) { f.Counter = of(0, 5, most+1) }),
		with(marked(), func(f *api.Field) { f.Holds[0].Due = most + 1 }),
		with(marked(), func(f *api.Field) { f.Holds[0].Amount = math.MaxInt }),
	)
}

// alike holds each part of two fields against that of the other one.
func alike(a, b api.Field) bool {
	return a.Name == b.Name && a.Kind == b.Kind && a.Epoch == b.Epoch && a.Counter == b.Counter && a.Lock == b.Lock && slices.Equal(a.Holds, b.Holds)
}

func alikeResidues(a, b wire.Residue) bool {
	return a.Epoch == b.Epoch && slices.Equal(a.Holds, b.Holds)
}

// guard stands in the room behind a guarded list.
func guard() []api.Hold {
	return slices.Repeat([]api.Hold{{Replica: 9, Number: 9, Amount: 9, Due: 9, State: api.Held}}, 3)
}

// guarded is a list with room behind its end, in which something stands.
func guarded(l []api.Hold) []api.Hold {
	return append(slices.Clone(l), guard()...)[:len(l)]
}

// untouched tells whether a list, and the room behind it, are as guarded made them.
func untouched(l, was []api.Hold) bool {
	n := len(l)
	return slices.Equal(l, was) && slices.Equal(l[:n+3][n:], guard())
}

// scribble writes over a list, its spare room too.
func scribble(l []api.Hold) {
	l = l[:cap(l)]
	for i := range l {
		l[i] = api.Hold{Replica: -77, Number: -77, Amount: -77, Due: -77, State: -77}
	}
}

func scribbleBytes(b []byte) {
	b = b[:cap(b)]
	for i := range b {
		b[i] ^= 0xff
	}
}

// P10.1: every field that may be, of each format, and of numbers that are none.
func TestSays(t *testing.T) {
	for i, f := range rightFields() {
		for _, version := range versions() {
			in := f
			in.Holds = guarded(f.Holds)
			if got, want := wire.Says(version, in), says(version, f); got != want {
				t.Errorf("Says(%d, field %d, %q): %v", version, i, f.Name, got)
			}
			if !untouched(in.Holds, f.Holds) {
				t.Fatalf("Says(%d, field %d) has changed it", version, i)
			}
		}
	}
	for i, f := range wrongFields() {
		for _, version := range versions() {
			if wire.Says(version, f) {
				t.Errorf("Says(%d, wrong field %d, %q)", version, i, f.Name)
			}
		}
	}
}

// P10.1: what each format can say, by hand.
func TestSaysByHand(t *testing.T) {
	late := with(fresh(), func(f *api.Field) { f.Epoch = 1 })
	held := with(fresh(), func(f *api.Field) { f.Holds = heldBy(1) })
	both := with(late, func(f *api.Field) { f.Holds = heldBy(16) })
	lateLock := with(locked(), func(f *api.Field) { f.Epoch = most })
	for i, c := range []struct {
		f    api.Field
		want [5]bool
	}{
		{fresh(), [5]bool{false, true, true, true, false}},
		{locked(), [5]bool{false, true, true, true, false}},
		{held, [5]bool{false, false, true, true, false}},
		{late, [5]bool{false, false, false, true, false}},
		{both, [5]bool{false, false, false, true, false}},
		{lateLock, [5]bool{false, false, false, true, false}},
		{api.Field{}, [5]bool{}},
	} {
		for version, want := range c.want {
			if wire.Says(version, c.f) != want {
				t.Errorf("Says(%d, field %d): %v", version, i, !want)
			}
		}
	}
}

// P10.1: every field that may be, of each format: its bytes, or ErrVersion and nothing.
func TestEncode(t *testing.T) {
	for i, f := range rightFields() {
		for _, version := range versions() {
			want, e := "", api.ErrVersion
			if says(version, f) {
				want, e = said(version, f), api.OK
			}
			in := f
			in.Holds = guarded(f.Holds)
			got, g := wire.Encode(version, in)
			if string(got) != want || g != e {
				t.Fatalf("Encode(%d, field %d, %q): %x, %d; want %x, %d", version, i, f.Name, got, g, want, e)
			}
			again, _ := wire.Encode(version, in)
			scribbleBytes(got)
			if !untouched(in.Holds, f.Holds) || string(again) != want {
				t.Fatalf("Encode(%d, field %d) has changed it, or shares another answer", version, i)
			}
		}
	}
}

// P10.1: a field that may not be comes ahead of a format that is none, or that can't say it.
func TestEncodeWrong(t *testing.T) {
	for i, f := range wrongFields() {
		for _, version := range versions() {
			if got, e := wire.Encode(version, f); len(got) != 0 || e != api.ErrArg {
				t.Errorf("Encode(%d, wrong field %d): %x, %d", version, i, got, e)
			}
		}
	}
}

// P10.1: bytes as they stand, worked out by hand.
func TestEncodeByHand(t *testing.T) {
	nothing := func(n int) string { return strings.Repeat("\x00", n) }
	const head = "\x0a\x00\x14"
	rights := "\x0a" + nothing(287) + "\x0a" + nothing(287)
	moved := fresh()
	moved.Counter.Down.Given[0] = 6
	moved.Counter.Up.Used[1] = 1
	moved.Counter.Up.Given[15] = 64
	moved.Counter.Up.Given[0] = 0
	moved.Counter.High = 69
	moved.Counter.Down.Moved[0][2] = 3
	moved.Counter.Down.Moved[2][1] = 2
	moved.Counter.Up.Moved[15][14] = most
	movedRights := "\x0c" + nothing(15) + nothing(16) + "\x00\x00\x06" + nothing(13) + nothing(16) + "\x00\x04" + nothing(14) + nothing(13*16) +
		nothing(15) + "\x80\x01" + "\x00\x02" + nothing(14) + nothing(15*16) + nothing(14) + "\x80\x80\x80\x80\x80\x40" + "\x00"
	heldOne := with(fresh(), func(f *api.Field) {
		f.Holds = []api.Hold{{Replica: 2, Number: 1, Amount: 64, Due: 9, State: 3}}
		f.Name = "abcdefgh"
	})
	late := with(heldOne, func(f *api.Field) { f.Epoch = 65 })
	lateLock := with(locked(), func(f *api.Field) { f.Epoch = most })
	for i, c := range []struct {
		version int
		f       api.Field
		want    string
	}{
		{1, locked(), "\x02\x04\x02l\x08\x0c\x06\x0f"},
		{2, locked(), "\x04\x04\x02l\x08\x0c\x06\x0f"},
		{3, locked(), "\x06\x04\x02l\x00\x08\x0c\x06\x0f"},
		{3, lateLock, "\x06\x04\x02l\x80\x80\x80\x80\x80\x40\x08\x0c\x06\x0f"},
		{1, fresh(), "\x02\x02\x02a" + head + rights},
		{2, fresh(), "\x04\x02\x02a" + head + rights + "\x00"},
		{3, fresh(), "\x06\x02\x02a\x00" + head + rights + "\x00"},
		{1, moved, "\x02\x02\x02a\x0a\x00\x8a\x01" + movedRights},
		{2, heldOne, "\x04\x02\x10abcdefgh" + head + rights + "\x02\x04\x02\x80\x01\x12\x06"},
		{3, heldOne, "\x06\x02\x10abcdefgh\x00" + head + rights + "\x02\x04\x02\x80\x01\x12\x06"},
		{3, late, "\x06\x02\x10abcdefgh\x82\x01" + head + rights + "\x02\x04\x02\x80\x01\x12\x06"},
	} {
		if !field.Right(c.f) {
			t.Fatalf("field %d may not be", i)
		}
		if got, e := wire.Encode(c.version, c.f); string(got) != c.want || e != api.OK {
			t.Errorf("Encode(%d, field %d): %x, %d; want %x", c.version, i, got, e, c.want)
		}
		if version, f, e := wire.Decode([]byte(c.want)); version != c.version || !alike(f, c.f) || e != api.OK {
			t.Errorf("Decode of field %d: %d, %v, %d", i, version, f, e)
		}
	}
}

// The fields with which the tests work are what they are said to be, and the tests' limit is the layers'.
func TestFields(t *testing.T) {
	for i, f := range rightFields() {
		if !field.Right(f) {
			t.Errorf("field %d, %q, may not be", i, f.Name)
		}
	}
	for i, f := range wrongFields() {
		if field.Right(f) {
			t.Errorf("wrong field %d, %q, may be", i, f.Name)
		}
	}
	if most != api.MaxNumber || len(placed()) != 2*(18*16-16) {
		t.Error(most, len(placed()))
	}
}

// P10.2: all pairs of formats, and of numbers that are none.
func TestMeet(t *testing.T) {
	for _, a := range versions() {
		for _, b := range versions() {
			want := 0
			if isFormat(a) && isFormat(b) {
				want = min(a, b)
			}
			if got := wire.Meet(a, b); got != want {
				t.Errorf("Meet(%d, %d): %d; want %d", a, b, got, want)
			}
		}
	}
	for _, c := range [][3]int{{1, 1, 1}, {1, 2, 1}, {3, 1, 1}, {2, 3, 2}, {3, 2, 2}, {3, 3, 3}, {0, 1, 0}, {1, 4, 0}, {4, 4, 0}, {-1, 3, 0}} {
		if got := wire.Meet(c[0], c[1]); got != c[2] {
			t.Errorf("Meet(%d, %d): %d; want %d", c[0], c[1], got, c[2])
		}
	}
}
