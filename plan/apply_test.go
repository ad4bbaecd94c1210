package plan_test

import (
	"fmt"
	"math"
	"slices"
	"testing"

	"usufruct/api"
	"usufruct/field"
	"usufruct/plan"
)

// sketch is what a plan would make under a name: of a lock the value alone.
type sketch struct {
	name      string
	lock      bool
	v         int
	low, high int
}

// made is the section 'Words' of what a plan makes, of the values and the bounds of what it is about.
func made(p api.Plan, v, low, high []int) []sketch {
	switch p.Kind {
	case api.Tighten:
		return []sketch{{p.Name, false, v[0], low[0] + p.A, high[0] - p.B}}
	case api.Loosen:
		return []sketch{{p.Name, false, v[0], low[0] - p.A, high[0] + p.B}}
	case api.ToLock:
		return []sketch{{p.Name, true, v[0], v[0], v[0]}}
	case api.ToCount:
		return []sketch{{p.Name, false, v[0], p.A, p.B}}
	case api.Merge:
		return []sketch{{p.Name, false, v[0] + v[1], low[0] + low[1], high[0] + high[1]}}
	}
	over := 0
	if v[0] > high[0]-p.A {
		over = v[0] - (high[0] - p.A)
	}
	return []sketch{{p.Name, false, v[0] - over, low[0], high[0] - p.A}, {p.Other, false, over, 0, p.A}}
}

// applied is P13.2's Apply, word for word.
func applied(l []api.Field, p api.Plan) ([]api.Field, api.Errno) {
	if e := fitting(l, p); e != api.OK {
		return nil, e
	}
	var v, low, high []int
	epoch := 0
	for _, f := range about(l, p) {
		n, e := field.View(f)
		if e != api.OK {
			return nil, e
		}
		v, low, high, epoch = append(v, n), append(low, f.Counter.Low), append(high, f.Counter.High), max(epoch, f.Epoch+1)
	}
	left := without(l, p.Name, p.Other)
	sketches := made(p, v, low, high)
	for _, s := range sketches {
		for _, n := range []int{s.v, s.low, s.high, s.high - s.low, epoch} {
			if n < -most || n > most {
				return nil, api.ErrRange
			}
		}
	}
	for _, s := range sketches {
		if s.v < s.low || s.v > s.high {
			return nil, api.ErrPlan
		}
		f := count(s.name, epoch, s.v, s.low, s.high)
		if s.lock {
			f = locked(s.name, epoch, s.v)
		}
		left = append(left, f)
	}
	slices.SortFunc(left, func(a, b api.Field) int {
		if a.Name < b.Name {
			return -1
		}
		return 1
	})
	return left, api.OK
}

// apply holds Apply against the document's words and P13.3, and looks at what it was handed; what it answers is told anew, as that itself is written over.
func apply(t *testing.T, l []api.Field, p api.Plan) ([]api.Field, api.Errno) {
	t.Helper()
	what := func() string { return fmt.Sprint(brief(l), p) }
	in := guarded(l)
	got, e := plan.Apply(in, p)
	again, f := plan.Apply(in, p)
	want, g := applied(l, p)
	if e != g || !alike(got, want) || f != e || !alike(again, got) || e != api.OK && got != nil {
		t.Fatalf("Apply of %s: %v, %d; want %v, %d", what(), brief(got), e, brief(want), g)
	}
	scribble(got)
	if !alike(again, want) {
		t.Fatalf("Apply of %s: two answers share memory", what())
	}
	if !untouched(in, l) {
		t.Fatalf("Apply of %s has changed, or shares, what it was given", what())
	}
	if e == api.OK {
		follows(t, l, p, want)
	}
	return want, e
}

// follows is P13.3's first sentence.
func follows(t *testing.T, l []api.Field, p api.Plan, made []api.Field) {
	t.Helper()
	if !plan.Fields(made) {
		t.Fatalf("Apply of %v, %v: %v, that may not be", brief(l), p, brief(made))
	}
	n, e := plan.Total(l)
	m, f := plan.Total(made)
	if e == api.OK && f == api.OK && n != m {
		t.Fatalf("Apply of %v, %v: Total %d, of %d", brief(l), p, m, n)
	}
}

// P13.2: ordinary plans of each kind, all that is made told, on lists of none to four fields; the others stay as they were, what is held of them, too.
func TestApplyOfEachKind(t *testing.T) {
	busy := holding(worn("z", 5, 3, 4, 0, 10), api.Held, api.Kept, api.Gone)
	others := [][]api.Field{nil, {busy}, {passed("!", 8, -3), busy}, {passed("!", 8, -3), holding(worn("a1", 6, 0, 0, 0, 1), api.Gone), busy}}
	spent := holding(worn("a", 2, 5, 7, 0, 10), api.Kept, api.Gone)
	for i, c := range []struct {
		l, want []api.Field
		p       api.Plan
	}{
		{[]api.Field{spent}, []api.Field{count("a", 3, 7, 1, 8)}, api.Plan{Kind: api.Tighten, Name: "a", A: 1, B: 2}},
		{[]api.Field{spent}, []api.Field{count("a", 3, 7, -1, 12)}, api.Plan{Kind: api.Loosen, Name: "a", A: 1, B: 2}},
		{[]api.Field{spent}, []api.Field{locked("a", 3, 7)}, api.Plan{Kind: api.ToLock, Name: "a"}},
		{[]api.Field{passed("a", 2, 7)}, []api.Field{count("a", 3, 7, -4, 9)}, api.Plan{Kind: api.ToCount, Name: "a", A: -4, B: 9}},
		{[]api.Field{spent}, []api.Field{count("a", 3, 6, 0, 6), count("b", 3, 1, 0, 4)}, api.Plan{Kind: api.Split, Name: "a", Other: "b", A: 4}},
		{[]api.Field{named(spent, "b")}, []api.Field{count("a", 3, 1, 0, 4), count("b", 3, 6, 0, 6)}, api.Plan{Kind: api.Split, Name: "b", Other: "a", A: 4}},
		{[]api.Field{spent, worn("b", 4, 0, -1, -2, 3)}, []api.Field{count("a", 5, 6, -2, 13)}, api.Plan{Kind: api.Merge, Name: "a", Other: "b"}},
		{[]api.Field{spent, worn("b", 4, 0, -1, -2, 3)}, []api.Field{count("b", 5, 6, -2, 13)}, api.Plan{Kind: api.Merge, Name: "b", Other: "a"}},
	} {
		for _, beside := range others {
			if len(c.l)+len(beside) > 4 || len(c.want)+len(beside) > 4 {
				continue
			}
			l, want := slices.Concat(c.l, beside), slices.Concat(c.want, beside)
			if len(beside) > 1 {
				l, want = slices.Concat(beside[:1], c.l, beside[1:]), slices.Concat(beside[:1], c.want, beside[1:])
			}
			got, e := apply(t, l, c.p)
			if e != api.OK || !alike(got, want) {
				t.Errorf("Apply %d beside %d: %v, %d; want %v", i, len(beside), brief(got), e, brief(want))
			}
		}
		if got, e := apply(t, nil, c.p); e != api.ErrNone || got != nil {
			t.Errorf("Apply %d of none: %v, %d", i, brief(got), e)
		}
	}
}

// P13.2: the four fields of the tests, each kind of plan on each of them, all that is there told.
func TestApplyAmongFour(t *testing.T) {
	l := four()
	for i, c := range []struct {
		p    api.Plan
		want []api.Field
		e    api.Errno
	}{
		{api.Plan{Kind: api.Tighten, Name: "b", A: 1, B: 4}, []api.Field{l[0], count("b", 3, -1, -1, -1), l[2], l[3]}, api.OK},
		{api.Plan{Kind: api.Loosen, Name: "d", A: 9}, []api.Field{l[0], l[1], l[2], count("d", 1, 5, -4, 9)}, api.OK},
		{api.Plan{Kind: api.ToLock, Name: "a"}, []api.Field{locked("a", 2, 7), l[1], l[2], l[3]}, api.OK},
		{api.Plan{Kind: api.ToCount, Name: "c", A: 6, B: 6}, []api.Field{l[0], l[1], count("c", 4, 6, 6, 6), l[3]}, api.OK},
		{api.Plan{Kind: api.Split, Name: "a", Other: "bb", A: 6}, nil, api.ErrFull},
		{api.Plan{Kind: api.Merge, Name: "d", Other: "a"}, []api.Field{l[1], l[2], count("d", 2, 12, 5, 19)}, api.OK},
		{api.Plan{Kind: api.Merge, Name: "a", Other: "b"}, []api.Field{count("a", 3, 6, -2, 13), l[2], l[3]}, api.OK},
	} {
		if got, e := apply(t, l, c.p); e != c.e || !alike(got, c.want) {
			t.Errorf("Apply %d: %v, %d; want %v, %d", i, brief(got), e, brief(c.want), c.e)
		}
	}
	three := without(l, "b")
	for other, want := range map[string][]api.Field{
		"!": {count("!", 2, 3, 0, 6), count("a", 2, 4, 0, 4), l[2], l[3]}, "12345678": {count("12345678", 2, 3, 0, 6), count("a", 2, 4, 0, 4), l[2], l[3]}, "123456789": nil, "": nil, "b": {count("a", 2, 4, 0, 4), count("b", 2, 3, 0, 6), l[2], l[3]},
		"ca": {count("a", 2, 4, 0, 4), l[2], count("ca", 2, 3, 0, 6), l[3]}, "x": {count("a", 2, 4, 0, 4), l[2], l[3], count("x", 2, 3, 0, 6)},
	} {
		goes := api.OK
		if want == nil {
			goes = api.ErrPlan
		}
		if got, e := apply(t, three, api.Plan{Kind: api.Split, Name: "a", Other: other, A: 6}); e != goes || !alike(got, want) {
			t.Errorf("Split to %q: %v, %d", other, brief(got), e)
		}
	}
}

// one is what Apply makes of the only field, or of the field of that name.
type one struct {
	f    api.Field
	p    api.Plan
	e    api.Errno
	want []api.Field
}

func (c one) try(t *testing.T) {
	t.Helper()
	if got, e := apply(t, []api.Field{c.f}, c.p); e != c.e || !alike(got, c.want) {
		t.Errorf("Apply of %v, %v: %v, %d; want %v, %d", brief([]api.Field{c.f}), c.p, brief(got), e, brief(c.want), c.e)
	}
}

// P13.2: Tighten and Loosen by one side alone, and with a value on a new bound, and one beyond it.
func TestApplyOnTheBounds(t *testing.T) {
	f := count("a", 0, 7, 0, 10)
	below, above := worn("a", 0, 5, -2, 0, 10), worn("a", 0, 5, 12, 0, 10)
	to := func(low, high int) []api.Field { return []api.Field{count("a", 1, 7, low, high)} }
	tighten := func(a, b int) api.Plan { return api.Plan{Kind: api.Tighten, Name: "a", A: a, B: b} }
	loosen := func(a, b int) api.Plan { return api.Plan{Kind: api.Loosen, Name: "a", A: a, B: b} }
	for _, c := range []one{
		{f, tighten(0, 1), api.OK, to(0, 9)},
		{f, tighten(1, 0), api.OK, to(1, 10)},
		{f, tighten(0, 0), api.ErrPlan, nil},
		{f, tighten(7, 0), api.OK, to(7, 10)},
		{f, tighten(8, 0), api.ErrPlan, nil},
		{f, tighten(0, 3), api.OK, to(0, 7)},
		{f, tighten(0, 4), api.ErrPlan, nil},
		{f, tighten(7, 3), api.OK, to(7, 7)},
		{f, tighten(8, 3), api.ErrPlan, nil},
		{f, tighten(7, 4), api.ErrPlan, nil},
		{f, tighten(most, most), api.ErrRange, nil},
		{f, tighten(most, 0), api.ErrPlan, nil},
		{below, tighten(0, 1), api.ErrPlan, nil},
		{above, tighten(1, 0), api.ErrPlan, nil},
		{f, loosen(0, 1), api.OK, to(0, 11)},
		{f, loosen(1, 0), api.OK, to(-1, 10)},
		{f, loosen(0, 0), api.ErrPlan, nil},
		{below, loosen(1, 0), api.ErrPlan, nil},
		{below, loosen(2, 0), api.OK, []api.Field{count("a", 1, -2, -2, 10)}},
		{below, loosen(0, 2), api.ErrPlan, nil},
		{above, loosen(0, 1), api.ErrPlan, nil},
		{above, loosen(0, 2), api.OK, []api.Field{count("a", 1, 12, 0, 12)}},
		{above, loosen(2, 0), api.ErrPlan, nil},
	} {
		c.try(t)
	}
}

// P13.2: a counter of any value becomes a lock; a lock of a value on each bound becomes a counter, one beyond does not.
func TestApplyToTheOtherKind(t *testing.T) {
	toLock := api.Plan{Kind: api.ToLock, Name: "a"}
	for _, v := range []int{0, 10, 5, -1, 11, -most + 10, most - 10} {
		one{worn("a", 9, 5, v, 0, 10), toLock, api.OK, []api.Field{locked("a", 10, v)}}.try(t)
	}
	for _, v := range []int{-most, most} {
		one{count("a", 0, v, v, v), toLock, api.OK, []api.Field{locked("a", 1, v)}}.try(t)
	}
	// A counter that is wider than New makes it may be: of a lock no bound is made.
	wide := count("a", 0, 0, -most, most)
	one{wide, toLock, api.OK, []api.Field{locked("a", 1, 0)}}.try(t)
	for _, c := range []struct {
		v, low, high int
		e            api.Errno
	}{
		{3, 3, 8, api.OK}, {2, 3, 8, api.ErrPlan}, {8, 3, 8, api.OK}, {9, 3, 8, api.ErrPlan}, {3, 3, 3, api.OK}, {4, 3, 3, api.ErrPlan}, {2, 3, 3, api.ErrPlan},
		{0, 0, 0, api.OK}, {-5, -5, -5, api.OK}, {-6, -5, 5, api.ErrPlan},
		{most, 0, most, api.OK}, {most, 0, most - 1, api.ErrPlan}, {-most, -most, 0, api.OK}, {-most, 1 - most, 0, api.ErrPlan},
		{0, -1, most, api.ErrRange}, {0, 0, most, api.OK}, {0, -most, 1, api.ErrRange}, {0, -most, most, api.ErrRange}, {most, -1, most - 1, api.ErrPlan},
		{3, 8, 3, api.ErrPlan},
	} {
		var want []api.Field
		if c.e == api.OK {
			want = []api.Field{count("a", 8, c.v, c.low, c.high)}
		}
		one{passed("a", 7, c.v), api.Plan{Kind: api.ToCount, Name: "a", A: c.low, B: c.high}, c.e, want}.try(t)
	}
}

// P13.2: Split of 0, of 1, of the whole width, and of one more, of a value below, on and above what is left; and the chapter's example.
func TestApplySplit(t *testing.T) {
	for _, c := range []struct {
		v, low, high, a int
		left, other     int
		e               api.Errno
	}{
		{7, 0, 10, 5, 5, 2, api.OK},
		{7, 0, 10, 0, 0, 0, api.ErrPlan},
		{7, 0, 10, 1, 7, 0, api.OK},
		{7, 0, 10, 2, 7, 0, api.OK},
		{7, 0, 10, 3, 7, 0, api.OK},
		{7, 0, 10, 4, 6, 1, api.OK},
		{7, 0, 10, 9, 1, 6, api.OK},
		{7, 0, 10, 10, 0, 7, api.OK},
		{7, 0, 10, 11, 0, 0, api.ErrPlan},
		{10, 0, 10, 1, 9, 1, api.OK},
		{10, 0, 10, 10, 0, 10, api.OK},
		{0, 0, 10, 10, 0, 0, api.OK},
		{0, 0, 10, 11, 0, 0, api.ErrPlan},
		{-3, -5, 5, 4, -3, 0, api.OK},
		{-3, -5, 5, 8, -3, 0, api.OK},
		{-3, -5, 5, 9, -4, 1, api.OK},
		{-3, -5, 5, 10, -5, 2, api.OK},
		{-3, -5, 5, 11, 0, 0, api.ErrPlan},
		{-9, -9, -7, 2, -9, 0, api.OK},
		{-7, -9, -7, 2, -9, 2, api.OK},
		{-7, -9, -7, 3, 0, 0, api.ErrPlan},
		{4, 4, 4, 1, 0, 0, api.ErrPlan},
		{4, 4, 4, most, 0, 0, api.ErrPlan},
		{-1, -1, -1, most, 0, 0, api.ErrRange},
		{most, 0, most, most, 0, most, api.OK},
		{0, -most, 0, most, -most, most, api.OK},
		{1 - most, -most, 0, most, -most, 1, api.OK},
	} {
		f := count("b", 6, c.v, c.low, c.high)
		var want, turned []api.Field
		if c.e == api.OK {
			want = []api.Field{count("b", 7, c.left, c.low, c.high-c.a), count("c", 7, c.other, 0, c.a)}
			turned = []api.Field{named(want[1], "a"), want[0]}
		}
		one{f, api.Plan{Kind: api.Split, Name: "b", Other: "c", A: c.a}, c.e, want}.try(t)
		one{f, api.Plan{Kind: api.Split, Name: "b", Other: "a", A: c.a}, c.e, turned}.try(t)
	}
}

// P13.2: of values that lie beyond their bounds, as no replica makes them: numbers are asked ahead of bounds, those of both fields ahead of either's bounds.
func TestApplySplitBeyond(t *testing.T) {
	split := func(a int) api.Plan { return api.Plan{Kind: api.Split, Name: "a", Other: "b", A: a} }
	for _, c := range []one{
		{worn("a", 0, 5, 12, 0, 10), split(3), api.ErrPlan, nil},
		{worn("a", 0, 5, -1, 0, 10), split(3), api.ErrPlan, nil},
		{worn("a", 0, 10, 10-most, 0, 10), split(1), api.ErrPlan, nil},
		{worn("a", 0, 0, most, 0, 10), split(10), api.ErrPlan, nil},
		{worn("a", 0, 0, most, 0, 10), split(11), api.ErrRange, nil},
		{worn("a", 0, -5, most-5, -5, 10), split(10), api.ErrPlan, nil},
		{worn("a", 0, -5, most-5, -5, 10), split(15), api.ErrPlan, nil},
		{worn("a", 0, -5, most-5, -5, 10), split(16), api.ErrRange, nil},
	} {
		c.try(t)
	}
}

// P13.2: Merge of unlike epochs, of values on bounds, in both orders of the names.
func TestApplyMerge(t *testing.T) {
	for _, c := range []struct {
		a, b api.Field
		e    api.Errno
		want api.Field
	}{
		{count("a", 1, 7, 0, 10), count("b", 4, -1, -2, 3), api.OK, count("", 5, 6, -2, 13)},
		{count("a", 4, 7, 0, 10), count("b", 1, -1, -2, 3), api.OK, count("", 5, 6, -2, 13)},
		{count("a", 0, 0, 0, 10), count("b", 0, 0, 0, 10), api.OK, count("", 1, 0, 0, 20)},
		{count("a", 0, 10, 0, 10), count("b", 3, 10, 0, 10), api.OK, count("", 4, 20, 0, 20)},
		{count("a", 2, 0, 0, 0), count("b", 2, 0, 0, 0), api.OK, count("", 3, 0, 0, 0)},
		{count("a", most-1, 1, 0, 2), count("b", 0, 1, 0, 2), api.OK, count("", most, 2, 0, 4)},
		{count("a", most, 1, 0, 2), count("b", 0, 1, 0, 2), api.ErrRange, api.Field{}},
		{count("a", 3, 1, 0, 2), count("b", most, 1, 0, 2), api.ErrRange, api.Field{}},
		{count("a", 0, 1, 0, most), count("b", 0, 0, 0, 0), api.OK, count("", 1, 1, 0, most)},
		{count("a", 0, 1, 0, most), count("b", 0, 0, 0, 1), api.ErrRange, api.Field{}},
		{count("a", 0, 1, 0, most), count("b", 0, -1, -1, -1), api.OK, count("", 1, 0, -1, most-1)},
		{count("a", 0, 1, 0, most), count("b", 0, -1, -1, 0), api.ErrRange, api.Field{}},
		{count("a", 0, 1-most, -most, 0), count("b", 0, 0, -1, 0), api.ErrRange, api.Field{}},
		{count("a", 0, -most, -most, 0), count("b", 0, 1, 1, 1), api.OK, count("", 1, 1-most, 1-most, 1)},
		{count("a", 0, most, most, most), count("b", 0, 1, 1, 1), api.ErrRange, api.Field{}},
		{count("a", 0, most, most, most), count("b", 0, -most, -most, -most), api.OK, count("", 1, 0, 0, 0)},
		{count("a", 0, 5, 0, most-4), count("b", 0, 3, 0, 4), api.OK, count("", 1, 8, 0, most)},
		{worn("a", 0, 5, 12, 0, 10), count("b", 0, 5, 0, 10), api.OK, count("", 1, 17, 0, 20)},
		{worn("a", 0, 5, 12, 0, 10), count("b", 0, 8, 0, 10), api.OK, count("", 1, 20, 0, 20)},
		{worn("a", 0, 5, 12, 0, 10), count("b", 0, 9, 0, 10), api.ErrPlan, api.Field{}},
		{worn("a", 0, 5, -2, 0, 10), count("b", 0, 2, 0, 10), api.OK, count("", 1, 0, 0, 20)},
		{worn("a", 0, 5, -2, 0, 10), count("b", 0, 1, 0, 10), api.ErrPlan, api.Field{}},
		{worn("a", 0, 0, most, 0, 10), count("b", 0, 1, 0, 10), api.ErrRange, api.Field{}},
	} {
		for _, names := range [][2]string{{"a", "b"}, {"b", "a"}} {
			var want []api.Field
			if c.e == api.OK {
				want = []api.Field{named(c.want, names[0])}
			}
			p := api.Plan{Kind: api.Merge, Name: names[0], Other: names[1]}
			if got, e := apply(t, []api.Field{c.a, c.b}, p); e != c.e || !alike(got, want) {
				t.Errorf("Merge of %v to %s: %v, %d; want %v, %d", brief([]api.Field{c.a, c.b}), names[0], brief(got), e, brief(want), c.e)
			}
		}
	}
}

// P13.2: bounds, epochs, values and widths of 2^40, and of one beyond it.
func TestApplyOfGreatNumbers(t *testing.T) {
	tighten := func(a, b int) api.Plan { return api.Plan{Kind: api.Tighten, Name: "a", A: a, B: b} }
	loosen := func(a, b int) api.Plan { return api.Plan{Kind: api.Loosen, Name: "a", A: a, B: b} }
	split := func(a int) api.Plan { return api.Plan{Kind: api.Split, Name: "a", Other: "b", A: a} }
	high := count("a", 0, most-2, most-5, most)
	low := count("a", 0, 2-most, -most, 5-most)
	wide := count("a", 0, 0, -most, most)
	for _, c := range []one{
		{count("a", most-1, 7, 0, 10), tighten(1, 1), api.OK, []api.Field{count("a", most, 7, 1, 9)}},
		{count("a", most, 7, 0, 10), tighten(1, 1), api.ErrRange, nil},
		{count("a", most, 7, 0, 10), loosen(1, 1), api.ErrRange, nil},
		{count("a", most, 7, 0, 10), api.Plan{Kind: api.ToLock, Name: "a"}, api.ErrRange, nil},
		{count("a", most, 7, 0, 10), split(4), api.ErrRange, nil},
		{passed("a", most, 7), api.Plan{Kind: api.ToCount, Name: "a", B: 9}, api.ErrRange, nil},
		{passed("a", most-1, 7), api.Plan{Kind: api.ToCount, Name: "a", B: 9}, api.OK, []api.Field{count("a", most, 7, 0, 9)}},
		{high, tighten(3, 0), api.OK, []api.Field{count("a", 1, most-2, most-2, most)}},
		{high, tighten(5, 0), api.ErrPlan, nil},
		{high, tighten(6, 0), api.ErrRange, nil},
		{high, loosen(most-5, 0), api.OK, []api.Field{count("a", 1, most-2, 0, most)}},
		{high, loosen(most-4, 0), api.ErrRange, nil},
		{high, loosen(0, 1), api.ErrRange, nil},
		{high, tighten(0, most), api.ErrPlan, nil},
		{low, tighten(0, 3), api.OK, []api.Field{count("a", 1, 2-most, -most, 2-most)}},
		{low, tighten(0, 5), api.ErrPlan, nil},
		{low, tighten(0, 6), api.ErrRange, nil},
		{low, loosen(0, most-5), api.OK, []api.Field{count("a", 1, 2-most, -most, 0)}},
		{low, loosen(0, most-4), api.ErrRange, nil},
		{low, loosen(1, 0), api.ErrRange, nil},
		{low, split(5), api.OK, []api.Field{count("a", 1, -most, -most, -most), count("b", 1, 2, 0, 5)}},
		{low, split(6), api.ErrRange, nil},
		{high, split(most), api.ErrPlan, nil},
		{wide, tighten(most, 0), api.OK, []api.Field{count("a", 1, 0, 0, most)}},
		{wide, tighten(most-1, 0), api.ErrRange, nil},
		{wide, tighten(0, most), api.OK, []api.Field{count("a", 1, 0, -most, 0)}},
		{wide, tighten(most/2, most/2), api.OK, []api.Field{count("a", 1, 0, -most/2, most/2)}},
		{wide, tighten(most, most), api.OK, []api.Field{count("a", 1, 0, 0, 0)}},
		{wide, split(most), api.OK, []api.Field{count("a", 1, 0, -most, 0), count("b", 1, 0, 0, most)}},
		{wide, split(most - 1), api.ErrRange, nil},
		// A width below 0 is a number, too, down to -2^40.
		{count("a", 0, 0, 0, 0), tighten(1, most-1), api.ErrPlan, nil},
		{count("a", 0, 0, 0, 0), tighten(1, most), api.ErrRange, nil},
		{count("a", 0, 0, 0, 0), tighten(most, 1), api.ErrRange, nil},
		{count("a", 0, 0, 0, 1), tighten(1, most), api.ErrPlan, nil},
		{count("a", 0, most, 0, most), tighten(most, 0), api.OK, []api.Field{count("a", 1, most, most, most)}},
		{count("a", 0, 5, 1, most), tighten(most, 0), api.ErrRange, nil},
	} {
		c.try(t)
	}
}

// P13.2: a value that can't be told is too great, whatever the plan; of fields that it is not about nothing is asked.
func TestApplyOfAnUntoldValue(t *testing.T) {
	l := []api.Field{count("a", 0, 7, 0, 10), untold("b"), passed("c", 0, 6)}
	for _, c := range []struct {
		p    api.Plan
		want api.Errno
	}{
		{api.Plan{Kind: api.Tighten, Name: "b", A: 1}, api.ErrRange},
		{api.Plan{Kind: api.Tighten, Name: "b", A: most - 1}, api.ErrRange},
		{api.Plan{Kind: api.Loosen, Name: "b", A: 1}, api.ErrRange},
		{api.Plan{Kind: api.ToLock, Name: "b"}, api.ErrRange},
		{api.Plan{Kind: api.Split, Name: "b", Other: "x", A: 1}, api.ErrRange},
		{api.Plan{Kind: api.Merge, Name: "a", Other: "b"}, api.ErrRange},
		{api.Plan{Kind: api.Merge, Name: "b", Other: "a"}, api.ErrRange},
		{api.Plan{Kind: api.Merge, Name: "b", Other: "c"}, api.ErrKind},
		{api.Plan{Kind: api.Tighten, Name: "a", A: 1}, api.OK},
		{api.Plan{Kind: api.Split, Name: "a", Other: "x", A: 1}, api.OK},
		{api.Plan{Kind: api.ToCount, Name: "c", B: 6}, api.OK},
	} {
		if _, e := apply(t, l, c.p); e != c.want {
			t.Errorf("Apply of %v: %d; want %d", c.p, e, c.want)
		}
	}
}

// P13.2: Fits' errors ahead of ErrRange, and ErrRange ahead of ErrPlan.
func TestApplyFirstError(t *testing.T) {
	late := count("a", most, 7, 0, 10)
	tight := api.Plan{Kind: api.Tighten, Name: "a", A: 8}
	for i, c := range []struct {
		l    []api.Field
		p    api.Plan
		want api.Errno
	}{
		{[]api.Field{late}, tight, api.ErrRange},
		{[]api.Field{count("a", 0, 7, 0, 10)}, tight, api.ErrPlan},
		{[]api.Field{holding(late, api.Held)}, tight, api.ErrState},
		{[]api.Field{passed("a", most, 7)}, tight, api.ErrKind},
		{[]api.Field{late}, api.Plan{Kind: api.Tighten, Name: "a"}, api.ErrPlan},
		{[]api.Field{late, late}, tight, api.ErrArg},
		{[]api.Field{late}, api.Plan{Kind: api.Tighten, Name: "b", A: 8}, api.ErrNone},
		{[]api.Field{late, locked("b", 0, 0)}, api.Plan{Kind: api.Split, Name: "a", Other: "b", A: 8}, api.ErrThere},
		{in(four(), late), api.Plan{Kind: api.Split, Name: "a", Other: "x", A: 80}, api.ErrFull},
		{[]api.Field{untold("a")}, api.Plan{Kind: api.Tighten, Name: "a", A: 11}, api.ErrRange},
		{[]api.Field{holding(untold("a"), api.Held)}, tight, api.ErrState},
		{[]api.Field{passed("a", most, 7)}, api.Plan{Kind: api.ToCount, Name: "a", A: 8, B: 9}, api.ErrRange},
		{[]api.Field{passed("a", 0, 7)}, api.Plan{Kind: api.ToCount, Name: "a", A: 8, B: 9}, api.ErrPlan},
		{[]api.Field{passed("a", 0, 7)}, api.Plan{Kind: api.ToCount, Name: "a", A: 8, B: 7}, api.ErrPlan},
	} {
		if got, e := apply(t, c.l, c.p); e != c.want || got != nil {
			t.Errorf("Apply %d of %v: %d; want %d", i, c.p, e, c.want)
		}
	}
}

// P13.2: fields that may not be, of each reason, and plans that may not.
func TestApplyOfWhatMayNotBe(t *testing.T) {
	for _, p := range six() {
		for i, wrong := range wrongFields() {
			if got, e := apply(t, []api.Field{wrong}, p); e != api.ErrArg || got != nil {
				t.Errorf("Apply of wrong field %d, %v: %d", i, p, e)
			}
		}
		for _, kind := range []int{0, 7, -1, most, math.MaxInt, math.MinInt} {
			q := p
			q.Kind = kind
			if got, e := apply(t, four(), q); e != api.ErrPlan || got != nil {
				t.Errorf("Apply of %v: %d", q, e)
			}
		}
		for _, name := range []string{"", "123456789", "a b"} {
			q := p
			q.Name = name
			if got, e := apply(t, four(), q); e != api.ErrPlan || got != nil {
				t.Errorf("Apply of %v: %d", q, e)
			}
		}
		for _, n := range []int{most + 1, -most - 1, math.MaxInt, math.MinInt} {
			a, b := p, p
			a.A, b.B = n, n
			_, e := apply(t, four(), a)
			_, f := apply(t, four(), b)
			if e != api.ErrPlan || f != api.ErrPlan {
				t.Errorf("Apply of %v, %v: %d, %d", a, b, e, f)
			}
		}
	}
}

// lists are some of none to five fields, that may be and that may not.
func lists() [][]api.Field {
	c, held := holding(worn("a", 2, 5, 7, 0, 10), api.Kept, api.Gone), holding(worn("b", 0, 0, 1, -2, 3), api.Gone, api.Held)
	high, low := count("b", most-1, most, 0, most), worn("c", most, -3, 2-most, -most, 0)
	return [][]api.Field{
		nil, {}, {c}, {passed("a", 1, 3)}, {c, high}, {low}, {c, held}, {c, worn("b", 9, 0, 1, -2, 3), passed("c", 0, 4)}, {held, passed("c", most, -4)},
		{c, held, low, passed("d", 0, 1)}, {c, high, low, passed("d", 0, 1)}, {high, c}, {c, c}, append(four(), locked("e", 0, 0)), {c, {}},
	}
}

// P13.2: all sorts of plans on all sorts of fields, held against the words.
func TestApplyOfAll(t *testing.T) {
	told := map[api.Errno]int{}
	wrong := 0
	names := []string{"a", "b", "c", "x", ""}
	numbers := []int{0, 1, 3, 7, 11, -2, most - 1, most, most + 1, -most, math.MinInt}
	for kind := range 8 {
		for _, name := range names {
			for _, other := range names {
				for _, a := range numbers {
					for _, b := range numbers {
						p := api.Plan{Kind: kind, Name: name, Other: other, A: a, B: b}
						if !mayBe(p) {
							wrong++
						}
						if !mayBe(p) && wrong%23 > 0 {
							continue // most plans may not be, and a part of these will do
						}
						for _, l := range lists() {
							fits(t, l, p)
							_, e := apply(t, l, p)
							told[e]++
						}
					}
				}
			}
		}
	}
	for _, e := range []api.Errno{api.OK, api.ErrArg, api.ErrRange, api.ErrNone, api.ErrThere, api.ErrFull, api.ErrKind, api.ErrState, api.ErrPlan} {
		if told[e] < 5 {
			t.Errorf("error %d was told %d times", e, told[e])
		}
	}
}
