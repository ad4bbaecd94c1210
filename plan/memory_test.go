package plan_test

import (
	"slices"
	"testing"

	"usufruct/api"
	"usufruct/plan"
)

// crowd are fields with holds, of which a, b and d may be changed.
func crowd() []api.Field {
	l := four()
	l[0] = holding(l[0], api.Kept)
	l[1] = holding(l[1], api.Gone, api.Kept, api.Gone)
	l[3] = holding(l[3], slices.Repeat([]int{api.Gone}, 16)...)
	return l
}

// plans of which each leaves some field of crowd with holds as it is.
func plansOfCrowd() []api.Plan {
	return []api.Plan{
		{Kind: api.Tighten, Name: "a", A: 1},
		{Kind: api.Loosen, Name: "b", A: 1},
		{Kind: api.ToLock, Name: "d"},
		{Kind: api.ToCount, Name: "c", B: 6},
		{Kind: api.Merge, Name: "b", Other: "a"},
		{Kind: api.Merge, Name: "a", Other: "d"},
	}
}

// Memory: what is handed in is written over behind the call, all room of it, and the answer stays.
func TestApplyKeepsNothing(t *testing.T) {
	for _, p := range plansOfCrowd() {
		in := guarded(crowd())
		got, e := plan.Apply(in, p)
		want, f := applied(crowd(), p)
		scribble(in)
		if e != api.OK || f != api.OK || !alike(got, want) {
			t.Errorf("Apply of %v: %v, %d; want %v", p, brief(got), e, brief(want))
		}
	}
}

// Memory: no list of an answer shares any room with another one of it.
func TestApplySharesNothing(t *testing.T) {
	for _, p := range plansOfCrowd() {
		want, _ := applied(crowd(), p)
		for i := range want {
			got, _ := plan.Apply(guarded(crowd()), p)
			h := got[i].Holds[:cap(got[i].Holds)]
			for j := range h {
				h[j] = guardHold
			}
			got[i] = want[i]
			if !alike(got, want) {
				t.Errorf("Apply of %v: holds of field %d are shared", p, i)
			}
		}
	}
}

// Memory: what is touched has no holds left, whatever it had; what is not has all it had.
func TestApplyAndHolds(t *testing.T) {
	for _, p := range plansOfCrowd() {
		got, e := apply(t, crowd(), p)
		for _, f := range got {
			n := len(f.Holds)
			if i := place(crowd(), f.Name); plan.Touched(p, f.Name) && n > 0 || !plan.Touched(p, f.Name) && n != len(crowd()[i].Holds) {
				t.Errorf("Apply of %v, %d: %s has %d holds", p, e, f.Name, n)
			}
		}
	}
}
