package plan_test

import (
	"math"
	"slices"
	"strings"
	"testing"

	"usufruct/api"
	"usufruct/field"
	"usufruct/plan"
)

const most = 1 << 40

// edges: ordinary numbers, the edges of what a number and a kind may be, one beyond each, and the outermost ints.
func edges() []int {
	return []int{-1, 0, 1, 2, 3, 4, 5, 6, 7, most - 1, most, most + 1, -most, -most - 1, math.MaxInt, math.MaxInt - 1, math.MinInt, math.MinInt + 1}
}

// count is a counter whose rights are all at replica 0.
func count(name string, epoch, value, low, high int) api.Field {
	f := api.Field{Name: name, Kind: api.IsCounter, Epoch: epoch}
	f.Counter = api.Counter{Init: value, Low: low, High: high}
	f.Counter.Down.Given[0] = value - low
	f.Counter.Up.Given[0] = high - value
	return f
}

// worn is a counter that began at init, and came to value by what replicas 3 and 4 did; it may be, even where value is beyond a bound.
func worn(name string, epoch, init, value, low, high int) api.Field {
	f := count(name, epoch, init, low, high)
	down, up := &f.Counter.Down, &f.Counter.Up
	used, back := up, down
	if value < init {
		used, back = down, up
	}
	n := max(value-init, init-value)
	used.Used[3] = n
	back.Given[3] = n
	down.Moved[0][3], up.Moved[0][4] = 1, 2
	return f
}

// locked is a lock as a plan makes it.
func locked(name string, epoch, value int) api.Field {
	return api.Field{Name: name, Kind: api.IsLock, Epoch: epoch, Lock: api.Lock{Value: value}}
}

// passed is a lock that was passed on, and written.
func passed(name string, epoch, value int) api.Field {
	return api.Field{Name: name, Kind: api.IsLock, Epoch: epoch, Lock: api.Lock{Seq: 4, Ver: 6, Holder: 3, Value: value}}
}

// untold is a counter that may be, whose value can't be told: what was used of Up, added to Init, is too great.
func untold(name string) api.Field {
	f := count(name, 0, most, most-10, most)
	f.Counter.Up.Used[1], f.Counter.Up.Given[1] = 1, 1
	f.Counter.Down.Used[1], f.Counter.Down.Given[1] = 1, 1
	return f
}

// holding is f with a hold of each of those states.
func holding(f api.Field, states ...int) api.Field {
	f.Holds = nil
	for i, state := range states {
		f.Holds = append(f.Holds, api.Hold{Replica: i, Number: 1, Amount: 1, Due: 9, State: state})
	}
	return f
}

// with is f, changed.
func with(f api.Field, change func(*api.Field)) api.Field {
	change(&f)
	return f
}

// wrongFields may not be, each by one thing alone, under a name that may be but where that is the thing.
func wrongFields() []api.Field {
	c, l := worn("a", 2, 5, 7, 0, 10), passed("a", 2, 7)
	h := holding(c, api.Held, api.Kept, api.Gone)
	var all []api.Field
	for _, f := range []api.Field{c, l, h} {
		for _, name := range []string{"", "ninebytes", "a b", "\x7f", "é"} {
			all = append(all, with(f, func(f *api.Field) { f.Name = name }))
		}
		for _, epoch := range []int{-1, most + 1, math.MaxInt, math.MinInt} {
			all = append(all, with(f, func(f *api.Field) { f.Epoch = epoch }))
		}
		for _, kind := range []int{0, 3, -1, math.MaxInt, math.MinInt, 3 - f.Kind} {
			all = append(all, with(f, func(f *api.Field) { f.Kind = kind }))
		}
	}
	return append(all,
		api.Field{},
		with(c, func(f *api.Field) { f.Counter.Init = 11 }),
		with(c, func(f *api.Field) { f.Counter.Low = -1 }),
		with(c, func(f *api.Field) { f.Counter.High = 11 }),
		with(c, func(f *api.Field) { f.Counter.Down.Given[0]++ }),
		with(c, func(f *api.Field) { f.Counter.Up.Used[0]++ }),
		with(c, func(f *api.Field) { f.Counter.Up.Moved[5][5] = 1 }),
		with(c, func(f *api.Field) { f.Counter.Down.Moved[5][6] = -1 }),
		with(c, func(f *api.Field) { f.Lock.Seq = 1 }),
		with(h, func(f *api.Field) { f.Lock.Value = 1 }),
		holding(c, api.Held, 0),
		holding(c, api.Gone, 4),
		holding(c, slices.Repeat([]int{api.Gone}, 17)...),
		with(h, func(f *api.Field) { f.Holds = slices.Clone(f.Holds); slices.Reverse(f.Holds) }),
		holding(l, api.Gone),
		with(l, func(f *api.Field) { f.Counter.High = 1 }),
		with(l, func(f *api.Field) { f.Lock.Holder = 16 }),
		with(l, func(f *api.Field) { f.Lock.Seq = -1 }),
		with(l, func(f *api.Field) { f.Lock.Ver = most + 1 }),
		with(l, func(f *api.Field) { f.Lock.Value = most + 1 }),
	)
}

// rightFields may be; all are named "a".
func rightFields() []api.Field {
	c, l := worn("a", 2, 5, 7, 0, 10), passed("a", 2, 7)
	return []api.Field{
		c, l, count("a", 0, 0, 0, 0), locked("a", 0, 0), untold("a"),
		count("a", most, most, 0, most), count("a", most, -most, -most, 0), passed("a", most, most), passed("a", most, -most),
		worn("a", 0, 5, -2, 0, 10), worn("a", 0, 5, 12, 0, 10),
		holding(c, api.Held, api.Kept, api.Gone), holding(c, slices.Repeat([]int{api.Held}, 16)...),
		with(c, func(f *api.Field) { f.Holds = []api.Hold{} }),
		with(l, func(f *api.Field) { f.Holds = []api.Hold{} }),
	}
}

// named is f under another name.
func named(f api.Field, name string) api.Field {
	f.Name = name
	return f
}

// alike holds each part of two lists of fields against that of the other one.
func alike(a, b []api.Field) bool {
	return slices.EqualFunc(a, b, func(a, b api.Field) bool {
		return a.Name == b.Name && a.Kind == b.Kind && a.Epoch == b.Epoch && a.Counter == b.Counter && a.Lock == b.Lock && slices.Equal(a.Holds, b.Holds)
	})
}

// brief is what a test tells of fields; the whole of their rights would be too long to read.
func brief(l []api.Field) [][]any {
	var all [][]any
	for _, f := range l {
		v, e := field.View(f)
		all = append(all, []any{f.Name, f.Kind, f.Epoch, v, e, f.Counter.Low, f.Counter.High, f.Lock, f.Holds})
	}
	return all
}

// guardHold and guardField stand in the room behind guarded lists.
var guardHold = api.Hold{Replica: 9, Number: 9, Amount: 9, Due: 9, State: api.Held}

func guardField() api.Field {
	return holding(count("guard", 9, 9, 9, 9), api.Held)
}

// guarded is l, each list of it with room behind its end, in which something stands.
func guarded(l []api.Field) []api.Field {
	var g []api.Field
	for _, f := range l {
		f.Holds = append(slices.Clone(f.Holds), guardHold, guardHold)[:len(f.Holds)]
		g = append(g, f)
	}
	return append(g, guardField(), guardField())[:len(l)]
}

// untouched tells whether a list, and all room behind ends in it, are as guarded made them.
func untouched(g, was []api.Field) bool {
	if !alike(g, was) || !alike(g[:len(g)+2][len(g):], []api.Field{guardField(), guardField()}) {
		return false
	}
	for _, f := range g {
		n := len(f.Holds)
		if !slices.Equal(f.Holds[:n+2][n:], []api.Hold{guardHold, guardHold}) {
			return false
		}
	}
	return true
}

// scribble writes over an answer and all its lists, their spare room too.
func scribble(l []api.Field) {
	l = l[:cap(l)]
	for i := range l {
		h := l[i].Holds[:cap(l[i].Holds)]
		for j := range h {
			h[j] = api.Hold{Replica: -77, Number: -77, Amount: -77, Due: -77, State: -77}
		}
		l[i] = api.Field{Name: "scribbled"}
	}
}

// may is Fields, of a list that is looked at behind it.
func may(t *testing.T, l []api.Field) bool {
	t.Helper()
	in := guarded(l)
	is := plan.Fields(in)
	if !untouched(in, l) {
		t.Fatalf("Fields has changed %v", brief(l))
	}
	return is
}

// P13.1: each field alone, and none; nil and empty lists mean the same.
func TestFieldsOfOne(t *testing.T) {
	if !plan.Fields(nil) || !plan.Fields([]api.Field{}) || !may(t, nil) {
		t.Error("Fields of none")
	}
	for i, f := range rightFields() {
		if !may(t, []api.Field{f}) {
			t.Errorf("Fields of one, %d: %v", i, brief([]api.Field{f}))
		}
	}
	for i, f := range wrongFields() {
		if may(t, []api.Field{f}) {
			t.Errorf("Fields of a wrong one, %d: %v", i, brief([]api.Field{f}))
		}
	}
}

// P13.1: a field that may not be, at each place among others.
func TestFieldsWithAWrongOne(t *testing.T) {
	names := []string{"A", "a", "b", "c"}
	for n := 1; n <= 4; n++ {
		for place := range n {
			for i, wrong := range wrongFields() {
				var l []api.Field
				for _, name := range names[:n] {
					l = append(l, count(name, 1, 2, 1, 3))
				}
				if !may(t, l) {
					t.Fatal("Fields of", n)
				}
				if wrong.Name == "a" {
					wrong.Name = names[place]
				}
				l[place] = wrong
				if may(t, l) {
					t.Errorf("Fields of %d with a wrong one, %d, at %d", n, i, place)
				}
			}
		}
	}
}

// P13.1: names that rise byte by byte, that don't, and that are there twice; 4 fields, 5, and many.
func TestFieldsByNames(t *testing.T) {
	for names, want := range map[string]bool{
		"a": true, "a b": true, "b a": false, "a a": false, "a b c": true, "a c b": false, "b a c": false, "a b a": false, "a a b": false, "a b b": false,
		"a b c d": true, "a b d c": false, "a c b d": false, "b a c d": false, "a b c c": false, "a a c d": false,
		"a b c d e": false, "a b c d d": false, "e d c b a": false,
		"a ab": true, "ab a": false, "a aa aaa b": true, "12345678 2": true, "2 12345678": false, "A a": true, "a A": false, "Z a": true, "a Z": false, "! ~": true, "~ !": false,
		"abcdefgh abcdefgi": true, "abcdefgi abcdefgh": false, "10 9": true, "9 10": false,
	} {
		for _, like := range []api.Field{count("", 0, 1, 1, 2), passed("", 3, 9), holding(count("", 0, 1, 1, 2), api.Held, api.Gone)} {
			var l []api.Field
			for _, name := range strings.Fields(names) {
				l = append(l, named(like, name))
			}
			if got := may(t, l); got != want {
				t.Errorf("Fields of %q: %v", names, got)
			}
		}
	}
	for n := range 90 {
		var l []api.Field
		for i := range n {
			l = append(l, locked(string([]byte{byte('!' + i)}), 0, i))
		}
		if got := may(t, l); got != (n <= 4) {
			t.Errorf("Fields of %d: %v", n, got)
		}
	}
}

// mayBe is the section 'Words' of a plan, kind by kind.
func mayBe(p api.Plan) bool {
	isNumber := func(n int) bool { return n >= -most && n <= most }
	if !field.Name(p.Name) || !isNumber(p.A) || !isNumber(p.B) {
		return false
	}
	other := field.Name(p.Other) && p.Other != p.Name
	switch p.Kind {
	case 1, 2:
		return p.Other == "" && p.A >= 0 && p.B >= 0 && !(p.A == 0 && p.B == 0)
	case 3:
		return p.Other == "" && p.A == 0 && p.B == 0
	case 4:
		return p.Other == "" && p.A <= p.B
	case 5:
		return other && p.A >= 1 && p.B == 0
	case 6:
		return other && p.A == 0 && p.B == 0
	}
	return false
}

// names that a plan is tried with: of 0, 1, 8 and 9 bytes, and of bytes that may not be.
func names() []string {
	return []string{"", "a", "b", "12345678", "!~!~!~!~", "123456789", "a b", "a\x7f", "é", "a\x00"}
}

// P13.1: all edges as both numbers and as the kind, all names as both names.
func TestRight(t *testing.T) {
	right := map[int]int{}
	for _, kind := range append(edges(), 8) {
		for _, name := range names() {
			for _, other := range names() {
				for _, a := range edges() {
					for _, b := range edges() {
						p := api.Plan{Kind: kind, Name: name, Other: other, A: a, B: b}
						got := plan.Right(p)
						if got != mayBe(p) {
							t.Fatalf("Right of %v: %v", p, got)
						}
						if got {
							right[kind]++
						}
					}
				}
			}
		}
	}
	if len(right) != 6 {
		t.Error("kinds of which some may be:", right)
	}
}

// P13.1: what the section 'Words' names, one by one.
func TestRightOfEachKind(t *testing.T) {
	for _, c := range []struct {
		p    api.Plan
		want bool
	}{
		{api.Plan{Kind: api.Tighten, Name: "a", A: 1}, true},
		{api.Plan{Kind: api.Tighten, Name: "a", B: 1}, true},
		{api.Plan{Kind: api.Tighten, Name: "a", A: most, B: most}, true},
		{api.Plan{Kind: api.Tighten, Name: "a"}, false},
		{api.Plan{Kind: api.Tighten, Name: "a", A: -1, B: 1}, false},
		{api.Plan{Kind: api.Tighten, Name: "a", A: 1, B: -1}, false},
		{api.Plan{Kind: api.Tighten, Name: "a", A: most + 1}, false},
		{api.Plan{Kind: api.Tighten, Name: "a", B: most + 1}, false},
		{api.Plan{Kind: api.Tighten, Name: "a", A: 1, B: math.MinInt}, false},
		{api.Plan{Kind: api.Tighten, Name: "a", A: math.MaxInt, B: math.MaxInt}, false},
		{api.Plan{Kind: api.Tighten, Name: "a", Other: "b", A: 1}, false},
		{api.Plan{Kind: api.Tighten, Name: "", A: 1}, false},
		{api.Plan{Kind: api.Tighten, Name: "12345678", A: 1}, true},
		{api.Plan{Kind: api.Tighten, Name: "123456789", A: 1}, false},
		{api.Plan{Kind: api.Loosen, Name: "a", A: 1}, true},
		{api.Plan{Kind: api.Loosen, Name: "a", B: most}, true},
		{api.Plan{Kind: api.Loosen, Name: "a"}, false},
		{api.Plan{Kind: api.Loosen, Name: "a", A: -1}, false},
		{api.Plan{Kind: api.Loosen, Name: "a", A: 1, Other: "a"}, false},
		{api.Plan{Kind: api.ToLock, Name: "a"}, true},
		{api.Plan{Kind: api.ToLock, Name: "a", A: 1}, false},
		{api.Plan{Kind: api.ToLock, Name: "a", B: -1}, false},
		{api.Plan{Kind: api.ToLock, Name: "a", Other: "b"}, false},
		{api.Plan{Kind: api.ToCount, Name: "a"}, true},
		{api.Plan{Kind: api.ToCount, Name: "a", A: -most, B: most}, true},
		{api.Plan{Kind: api.ToCount, Name: "a", A: -5, B: -5}, true},
		{api.Plan{Kind: api.ToCount, Name: "a", A: -4, B: -5}, false},
		{api.Plan{Kind: api.ToCount, Name: "a", A: math.MinInt, B: 1}, false},
		{api.Plan{Kind: api.ToCount, Name: "a", B: 1, Other: "b"}, false},
		{api.Plan{Kind: api.Split, Name: "a", Other: "b", A: 1}, true},
		{api.Plan{Kind: api.Split, Name: "b", Other: "a", A: most}, true},
		{api.Plan{Kind: api.Split, Name: "a", Other: "b"}, false},
		{api.Plan{Kind: api.Split, Name: "a", Other: "b", A: -1}, false},
		{api.Plan{Kind: api.Split, Name: "a", Other: "b", A: 1, B: 1}, false},
		{api.Plan{Kind: api.Split, Name: "a", Other: "b", A: 1, B: -1}, false},
		{api.Plan{Kind: api.Split, Name: "a", Other: "a", A: 1}, false},
		{api.Plan{Kind: api.Split, Name: "a", Other: "", A: 1}, false},
		{api.Plan{Kind: api.Split, Name: "a", Other: "12345678", A: 1}, true},
		{api.Plan{Kind: api.Split, Name: "a", Other: "123456789", A: 1}, false},
		{api.Plan{Kind: api.Merge, Name: "a", Other: "b"}, true},
		{api.Plan{Kind: api.Merge, Name: "b", Other: "a"}, true},
		{api.Plan{Kind: api.Merge, Name: "a", Other: "a"}, false},
		{api.Plan{Kind: api.Merge, Name: "a"}, false},
		{api.Plan{Kind: api.Merge, Name: "a", Other: "a b"}, false},
		{api.Plan{Kind: api.Merge, Name: "a", Other: "b", A: 1}, false},
		{api.Plan{Kind: api.Merge, Name: "a", Other: "b", B: 1}, false},
		{api.Plan{Kind: 0, Name: "a"}, false},
		{api.Plan{Kind: 7, Name: "a", Other: "b"}, false},
		{api.Plan{Kind: -1, Name: "a", A: 1}, false},
		{api.Plan{}, false},
	} {
		if got := plan.Right(c.p); got != c.want {
			t.Errorf("Right of %v: %v", c.p, got)
		}
	}
}

// P13.1: the first one of that name, of fields that may be and of others; of none 0 and false.
func TestFind(t *testing.T) {
	l := []api.Field{count("a", 0, 1, 0, 2), locked("c", 0, 1), count("b", 0, 1, 0, 2), locked("b", 0, 1), {}, {Name: ""}, {Name: "too long a name"}, locked("ab", 0, 0)}
	for _, c := range []struct {
		name  string
		place int
		is    bool
	}{
		{"a", 0, true}, {"c", 1, true}, {"b", 2, true}, {"", 4, true}, {"too long a name", 6, true}, {"ab", 7, true},
		{"d", 0, false}, {"A", 0, false}, {"aa", 0, false}, {"too long", 0, false}, {"\x00", 0, false},
	} {
		in := guarded(l)
		if n, is := plan.Find(in, c.name); n != c.place || is != c.is || !untouched(in, l) {
			t.Errorf("Find %q: %d, %v", c.name, n, is)
		}
	}
	for _, name := range []string{"", "a", "guard"} {
		for _, none := range [][]api.Field{nil, {}, guarded(nil), guarded(l)[:0]} {
			if n, is := plan.Find(none, name); n != 0 || is {
				t.Errorf("Find %q of none: %d, %v", name, n, is)
			}
		}
		if n, is := plan.Find(guarded(l[7:]), name); n != 0 || is {
			t.Errorf("Find %q: %d, %v", name, n, is)
		}
	}
}

// P13.1: a plan's Name, and its Other, if that is not empty, whatever the plan is.
func TestTouched(t *testing.T) {
	for _, kind := range edges() {
		for _, n := range edges() {
			for _, name := range names() {
				for _, other := range names() {
					p := api.Plan{Kind: kind, Name: name, Other: other, A: n, B: n}
					for _, asked := range names() {
						want := asked == name
						if other != "" && asked == other {
							want = true
						}
						if got := plan.Touched(p, asked); got != want {
							t.Fatalf("Touched of %v, %q: %v", p, asked, got)
						}
					}
				}
			}
		}
	}
	for _, c := range []struct {
		p    api.Plan
		name string
		want bool
	}{
		{api.Plan{Kind: api.Merge, Name: "a", Other: "b"}, "a", true},
		{api.Plan{Kind: api.Merge, Name: "a", Other: "b"}, "b", true},
		{api.Plan{Kind: api.Merge, Name: "a", Other: "b"}, "ab", false},
		{api.Plan{Kind: api.Merge, Name: "a", Other: "b"}, "", false},
		{api.Plan{Kind: api.ToLock, Name: "a"}, "a", true},
		{api.Plan{Kind: api.ToLock, Name: "a"}, "", false},
		{api.Plan{Kind: api.ToLock, Name: "a"}, "A", false},
		{api.Plan{}, "", true},
		{api.Plan{}, "a", false},
	} {
		if got := plan.Touched(c.p, c.name); got != c.want {
			t.Errorf("Touched of %v, %q: %v", c.p, c.name, got)
		}
	}
}

// P13.1: views are added in order; one that can't be told is told ahead of a sum that is too great.
func TestTotal(t *testing.T) {
	v := func(n int) api.Field { return locked("a", 0, n) }
	for i, c := range []struct {
		l    []api.Field
		want int
		e    api.Errno
	}{
		{nil, 0, api.OK},
		{[]api.Field{}, 0, api.OK},
		{[]api.Field{v(7)}, 7, api.OK},
		{[]api.Field{worn("a", 0, 5, 7, 0, 10), v(-1), holding(worn("b", 0, 5, 2, 0, 10), api.Held, api.Kept)}, 8, api.OK},
		{[]api.Field{v(most), v(-1), v(1)}, most, api.OK},
		{[]api.Field{v(most), v(1), v(-1)}, 0, api.ErrRange},
		{[]api.Field{v(-most), v(1), v(-1)}, -most, api.OK},
		{[]api.Field{v(-most), v(-1), v(1)}, 0, api.ErrRange},
		{[]api.Field{v(most), v(-most), v(most), v(-most), v(4), v(-5)}, -1, api.OK},
		{[]api.Field{v(most + 1)}, 0, api.ErrRange},
		{[]api.Field{v(most + 1), v(-1)}, 0, api.ErrRange},
		{[]api.Field{v(math.MaxInt), v(math.MaxInt), v(2)}, 0, api.ErrRange},
		{[]api.Field{v(math.MinInt), v(math.MinInt)}, 0, api.ErrRange},
		{[]api.Field{v(1), untold("a")}, 0, api.ErrRange},
		{[]api.Field{{}}, 0, api.ErrKind},
		{[]api.Field{v(1), {Kind: 3}}, 0, api.ErrKind},
		{[]api.Field{{Kind: -1}, untold("a")}, 0, api.ErrKind},
		{[]api.Field{untold("a"), {Kind: -1}}, 0, api.ErrRange},
		{[]api.Field{v(most), v(1), {}}, 0, api.ErrKind},
		{slices.Repeat([]api.Field{v(3)}, 1000), 3000, api.OK},
	} {
		in := guarded(c.l)
		n, e := plan.Total(in)
		if n != c.want || e != c.e || !untouched(in, c.l) {
			t.Errorf("Total %d: %d, %d; want %d, %d", i, n, e, c.want, c.e)
		}
	}
}

// The fields of the tests are what their words say.
func TestFieldsOfTheTests(t *testing.T) {
	for _, c := range []struct {
		f    api.Field
		want int
	}{
		{count("a", 0, 5, 0, 10), 5}, {worn("a", 0, 5, 7, 0, 10), 7}, {worn("a", 0, 5, 2, 0, 10), 2}, {worn("a", 0, 5, -2, 0, 10), -2}, {worn("a", 0, 5, 12, 0, 10), 12},
		{locked("a", 0, 3), 3}, {passed("a", 0, 3), 3}, {holding(worn("a", 0, 5, 7, 0, 10), 1, 2, 3), 7},
	} {
		if n, e := field.View(c.f); n != c.want || e != api.OK || !field.Right(c.f) {
			t.Errorf("%v: %d, %d", brief([]api.Field{c.f}), n, e)
		}
	}
	if _, e := field.View(untold("a")); e != api.ErrRange || !field.Right(untold("a")) {
		t.Error("untold:", e)
	}
	for i, f := range wrongFields() {
		if field.Right(f) {
			t.Errorf("wrong field %d may be", i)
		}
	}
}
