package plan_test

import (
	"math/rand/v2"
	"slices"
	"testing"

	"usufruct/api"
	"usufruct/field"
	"usufruct/plan"
)

// isOld tells whether values of what a plan made were, seen as the plan sees them, within the bounds of what it is about.
func isOld(old []api.Field, p api.Plan, values []int) bool {
	a := old[0].Counter
	switch p.Kind {
	case api.Split: // both are one
		return a.Low <= values[0]+values[1] && values[0]+values[1] <= a.High
	case api.Merge: // it is two, each within its bounds
		b := old[1].Counter
		for x := a.Low; x <= a.High; x++ {
			if y := values[0] - x; b.Low <= y && y <= b.High {
				return true
			}
		}
		return false
	}
	return a.Low <= values[0] && values[0] <= a.High
}

// allOld tells whether all values within the bounds of what a plan made were within those of what it is about.
func allOld(old, made []api.Field, p api.Plan) bool {
	if len(made) == 1 {
		for x := made[0].Counter.Low; x <= made[0].Counter.High; x++ {
			if !isOld(old, p, []int{x}) {
				return false
			}
		}
		return true
	}
	name, other := made[place(made, p.Name)].Counter, made[place(made, p.Other)].Counter
	for x := name.Low; x <= name.High; x++ {
		for y := other.Low; y <= other.High; y++ {
			if !isOld(old, p, []int{x, y}) {
				return false
			}
		}
	}
	return true
}

// P13.3: of all small counters and all small plans.
func TestWhatIsWithinWas(t *testing.T) {
	done := map[int]int{}
	try := func(l []api.Field, p api.Plan) {
		if got, e := apply(t, l, p); e == api.OK {
			done[p.Kind]++
			if !allOld(l, got, p) {
				t.Fatalf("Apply of %v, %v: %v", brief(l), p, brief(got))
			}
		}
	}
	for low := -3; low <= 2; low++ {
		for width := range 5 {
			for v := low; v <= low+width; v++ {
				f := []api.Field{worn("f", 1, low+width/2, v, low, low+width)}
				for a := range 7 {
					for b := range 7 {
						try(f, api.Plan{Kind: api.Tighten, Name: "f", A: a, B: b})
					}
					try(f, api.Plan{Kind: api.Split, Name: "f", Other: "e", A: a})
					try(f, api.Plan{Kind: api.Split, Name: "f", Other: "g", A: a})
					for _, o := range []api.Field{count("g", 0, a-3, a-3, a-3), count("g", 4, a-2, a-3, a), count("g", 1, a+4, a, a+4)} {
						try(append(slices.Clone(f), o), api.Plan{Kind: api.Merge, Name: "f", Other: "g"})
						try(append(slices.Clone(f), o), api.Plan{Kind: api.Merge, Name: "g", Other: "f"})
					}
				}
			}
		}
	}
	for _, kind := range []int{api.Tighten, api.Split, api.Merge} {
		if done[kind] < 300 {
			t.Errorf("plans of kind %d that went: %d", kind, done[kind])
		}
	}
}

// P13.3: Loosen and ToCount are let out of it, and rightly so.
func TestWhatIsWithinWasNot(t *testing.T) {
	f := []api.Field{count("a", 0, 1, 0, 2)}
	for _, p := range []api.Plan{{Kind: api.Loosen, Name: "a", A: 1}, {Kind: api.Loosen, Name: "a", B: 1}} {
		if got, e := apply(t, f, p); e != api.OK || allOld(f, got, p) {
			t.Errorf("Apply of %v: %v, %d", p, brief(got), e)
		}
	}
	l := []api.Field{locked("a", 0, 1)}
	p := api.Plan{Kind: api.ToCount, Name: "a", A: 0, B: 5}
	if got, e := apply(t, l, p); e != api.OK || allOld(l, got, p) {
		t.Errorf("Apply of %v: %v, %d", p, brief(got), e)
	}
}

// anyPlan is a plan for some field of l, mostly one that may be.
func anyPlan(dice *rand.Rand, l []api.Field) api.Plan {
	names := []string{"a", "b", "c", "d"}
	kinds := []int{api.Tighten, api.Loosen, api.ToLock, api.ToCount, api.ToCount, api.ToCount, api.Split, api.Split, api.Merge, api.Merge, api.Merge}
	p := api.Plan{Kind: kinds[dice.IntN(len(kinds))], Name: l[dice.IntN(len(l))].Name}
	switch p.Kind {
	case api.Tighten, api.Loosen:
		p.A, p.B = dice.IntN(6), dice.IntN(6)
	case api.ToCount:
		p.A = dice.IntN(40) - 30
		p.B = p.A + dice.IntN(60)
	case api.Split:
		p.Other, p.A = names[dice.IntN(4)], 1+dice.IntN(9)
	case api.Merge:
		p.Other = l[dice.IntN(len(l))].Name
	}
	return p
}

// used is f behind something that a replica did to it, and how much greater its value is for it.
func used(dice *rand.Rand, f api.Field) (api.Field, int) {
	k, n := dice.IntN(3), dice.IntN(7)-3
	was, _ := field.View(f)
	g, e := f, api.ErrKind
	switch dice.IntN(6) {
	case 0:
		g, e = field.Add(f, k, n)
	case 1:
		g, e = field.Hand(f, k, dice.IntN(3), dice.IntN(4), dice.IntN(4))
	case 2:
		g, _, e = field.Reserve(f, k, dice.IntN(3), 9)
	case 3:
		g, e = field.End(f, k, 1+dice.IntN(3), api.Kept+dice.IntN(2))
	case 4:
		g, e = field.Write(f, f.Lock.Holder, was+n)
	case 5:
		g, e = field.Pass(f, f.Lock.Holder, k)
	}
	if e != api.OK {
		return f, 0
	}
	is, _ := field.View(g)
	return g, is - was
}

// P13.3: fields that replicas use, and that one plan behind the other changes: what is there in all is what was there at first and what was added, and no value is beyond its bounds.
func TestTotalThroughManyPlans(t *testing.T) {
	dice := rand.New(rand.NewPCG(13, 3))
	done := map[int]int{}
	for range 150 {
		l := []api.Field{count("a", 0, 7, 0, 10), count("b", 0, -1, -2, 3), locked("c", 0, 6)}
		want := 12
		for range 80 {
			for range 3 {
				i, more := dice.IntN(len(l)), 0
				l[i], more = used(dice, l[i])
				want += more
			}
			p := anyPlan(dice, l)
			if got, e := apply(t, l, p); e == api.OK {
				l = got
				done[p.Kind]++
			}
			for _, f := range l {
				if v, _ := field.View(f); f.Kind == api.IsCounter && (v < f.Counter.Low || v > f.Counter.High) {
					t.Fatalf("beyond its bounds behind %v: %v", p, brief(l))
				}
			}
			if n, e := plan.Total(l); n != want || e != api.OK {
				t.Fatalf("Total behind %v: %d, %d; want %d", p, n, e, want)
			}
		}
	}
	for kind := 1; kind <= 6; kind++ {
		if done[kind] < 20 {
			t.Errorf("plans of kind %d that went: %d", kind, done[kind])
		}
	}
}

// The document's examples 5, 6 and 7 of the whole, and the chapter's.
func TestExamples(t *testing.T) {
	five := []api.Field{count("a", 0, 5, 0, 10)}
	if got, e := apply(t, five, api.Plan{Kind: api.Tighten, Name: "a", A: 3}); e != api.OK || !alike(got, []api.Field{count("a", 1, 5, 3, 10)}) {
		t.Errorf("Tighten by 3: %v, %d", brief(got), e)
	}
	if got, e := apply(t, five, api.Plan{Kind: api.Tighten, Name: "a", A: 6}); e != api.ErrPlan || got != nil {
		t.Errorf("Tighten by 6: %v, %d", brief(got), e)
	}
	two, e := apply(t, five, api.Plan{Kind: api.Split, Name: "a", Other: "b", A: 6})
	if e != api.OK || !alike(two, []api.Field{count("a", 1, 4, 0, 4), count("b", 1, 1, 0, 6)}) {
		t.Errorf("Split of 6: %v, %d", brief(two), e)
	}
	if got, e := apply(t, two, api.Plan{Kind: api.Merge, Name: "a", Other: "b"}); e != api.OK || !alike(got, []api.Field{count("a", 2, 5, 0, 10)}) {
		t.Errorf("Split of 6, Merge: %v, %d", brief(got), e)
	}
	seven := []api.Field{count("a", 0, 7, 0, 10)}
	if got, e := apply(t, seven, api.Plan{Kind: api.Split, Name: "a", Other: "b", A: 5}); e != api.OK || !alike(got, []api.Field{count("a", 1, 5, 0, 5), count("b", 1, 2, 0, 5)}) {
		t.Errorf("Split of 5: %v, %d", brief(got), e)
	}
}
