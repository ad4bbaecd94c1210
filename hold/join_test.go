package hold_test

import (
	"math/rand/v2"
	"slices"
	"sort"
	"testing"

	"usufruct/api"
	"usufruct/hold"
)

// joined is P6.3, word for word.
func joined(a, b []api.Hold) ([]api.Hold, api.Errno) {
	if !allMayBe(a) || !allMayBe(b) {
		return nil, api.ErrArg
	}
	var all []api.Hold
	for _, l := range [][]api.Hold{a, b} {
		for _, h := range l {
			i := slices.IndexFunc(all, func(g api.Hold) bool { return g.Replica == h.Replica && g.Number == h.Number })
			switch {
			case i < 0:
				all = append(all, h)
			case all[i].Amount != h.Amount || all[i].Due != h.Due:
				return nil, api.ErrArg
			case all[i].State < h.State:
				all[i] = h
			}
		}
	}
	if len(all) > 16 {
		return nil, api.ErrFull
	}
	sort.Slice(all, func(i, j int) bool { return ahead(all[i], all[j]) })
	return all, api.OK
}

// join holds Join against the document's words, in both orders, and looks at what it was handed.
func join(t *testing.T, a, b []api.Hold) ([]api.Hold, api.Errno) {
	t.Helper()
	want, we := joined(a, b)
	for _, l := range [][2][]api.Hold{{a, b}, {b, a}} {
		first, second := guarded(l[0]), guarded(l[1])
		got, e := hold.Join(first, second)
		if !slices.Equal(got, want) || e != we {
			t.Fatalf("Join(%v, %v): %v, %d; want %v, %d", l[0], l[1], got, e, want, we)
		}
		scribble(got)
		if !untouched(first, l[0]) || !untouched(second, l[1]) {
			t.Fatalf("Join(%v, %v) has changed, or shares, what it was given", l[0], l[1])
		}
	}
	return want, we
}

// P6.3: lists that share some, and none, and that are in one another.
func TestJoin(t *testing.T) {
	for _, a := range [][]api.Hold{nil, {}, few(), many(15), many(16), {sample()}} {
		for _, b := range [][]api.Hold{nil, {}, few(), many(15), many(16), {sample()}} {
			join(t, a, b)
		}
	}
	dice := rand.New(rand.NewPCG(6, 3))
	full := 0
	for range 5000 {
		if _, e := join(t, randomHolds(dice, 20), randomHolds(dice, 20)); e == api.ErrFull {
			full++
		}
	}
	if full < 50 {
		t.Error("too few were full:", full)
	}
}

// P6.3: of holds that may not be, on either side, and on both.
func TestJoinOfWrongOnes(t *testing.T) {
	for _, wrong := range wrongLists() {
		for _, l := range [][]api.Hold{nil, few(), many(16), {sample()}, wrong} {
			if _, e := join(t, wrong, l); e != api.ErrArg {
				t.Errorf("Join of %v and %v: %d", wrong, l, e)
			}
		}
	}
}

// P6.3: two that both have differ in one number.
func TestJoinOfUnlikeOnes(t *testing.T) {
	for i, h := range few() {
		for _, d := range []int{-1, 1} {
			l := few()
			l[i].Amount += d
			if mayBe(l[i]) {
				if _, e := join(t, few(), l); e != api.ErrArg {
					t.Errorf("of unlike amounts of %v: %d", h, e)
				}
			}
			l = few()
			l[i].Due += d
			if mayBe(l[i]) {
				if _, e := join(t, few(), l); e != api.ErrArg {
					t.Errorf("of unlike times of %v: %d", h, e)
				}
			}
		}
	}
	swapped := sample()
	swapped.Amount, swapped.Due = swapped.Due, swapped.Amount
	if _, e := join(t, []api.Hold{sample()}, []api.Hold{swapped}); e != api.ErrArg {
		t.Errorf("of amount and time swapped: %d", e)
	}
}

// P6.3: of all pairs of states the greater one.
func TestJoinOfStates(t *testing.T) {
	for i := range few() {
		for a := 1; a <= 3; a++ {
			for b := 1; b <= 3; b++ {
				l, m := few(), few()
				l[i].State, m[i].State = a, b
				got, e := join(t, l, m)
				if e != api.OK || len(got) != len(l) || got[i].State != max(a, b) {
					t.Errorf("of states %d and %d: %v, %d", a, b, got, e)
				}
			}
		}
	}
}

// of are holds of replica k, of the numbers from first up to last.
func of(k, first, last int) []api.Hold {
	var l []api.Hold
	for n := first; n <= last; n++ {
		l = append(l, api.Hold{Replica: k, Number: n, Amount: n, State: api.Held})
	}
	return l
}

// P6.3: 15, 16 and 17 in all, where they share none, some, and all; ErrArg comes ahead of ErrFull.
func TestJoinOfTooMany(t *testing.T) {
	unlike := of(1, 1, 16)
	unlike[15].Amount = 0
	shifted := of(1, 1, 1)
	shifted[0].Due = 1
	for _, c := range []struct {
		a, b []api.Hold
		n    int
		want api.Errno
	}{
		{of(1, 1, 8), of(2, 1, 7), 15, api.OK},
		{of(1, 1, 8), of(2, 1, 8), 16, api.OK},
		{of(1, 1, 8), of(2, 1, 9), 0, api.ErrFull},
		{of(1, 1, 16), of(1, 1, 16), 16, api.OK},
		{of(1, 1, 16), of(1, 2, 17), 0, api.ErrFull},
		{of(1, 1, 16), of(1, 5, 16), 16, api.OK},
		{of(1, 1, 10), of(1, 7, 16), 16, api.OK},
		{of(1, 1, 10), of(1, 7, 17), 0, api.ErrFull},
		{of(1, 1, 16), nil, 16, api.OK},
		{of(1, 1, 16), of(0, 1, 1), 0, api.ErrFull},
		{of(1, 1, 16), of(15, 1, 16), 0, api.ErrFull},
		{of(1, 1, 16), append(of(0, 1, 3), unlike[15]), 0, api.ErrArg},
		{of(1, 1, 16), append(unlike[15:16:16], of(2, 1, 3)...), 0, api.ErrArg},
		{of(1, 1, 16), append(shifted, of(2, 1, 15)...), 0, api.ErrArg},
		{of(1, 1, 17), of(1, 1, 1), 0, api.ErrArg},
	} {
		if l, e := join(t, c.a, c.b); len(l) != c.n || e != c.want {
			t.Errorf("Join of %v and %v: %d, %d; want %d, %d", c.a, c.b, len(l), e, c.n, c.want)
		}
	}
}

// joinAll joins a list of lists, from its first one on.
func joinAll(t *testing.T, lists [][]api.Hold) []api.Hold {
	t.Helper()
	var all []api.Hold
	for _, l := range lists {
		more, e := hold.Join(all, l)
		if e != api.OK {
			t.Fatalf("Join(%v, %v): %d", all, l, e)
		}
		all = more
	}
	return all
}

// P6.4: three in both nestings, with errors too: whoever can be joined in one order can be in all.
func TestJoiningHangsOnNoNesting(t *testing.T) {
	dice := rand.New(rand.NewPCG(6, 4))
	nested := func(a, b, c []api.Hold) ([]api.Hold, bool) {
		ab, e := hold.Join(a, b)
		if e != api.OK {
			return nil, false
		}
		all, e := hold.Join(ab, c)
		return all, e == api.OK
	}
	went, refused := 0, 0
	for range 4000 {
		a, b, c := randomHolds(dice, 12), randomHolds(dice, 12), randomHolds(dice, 12)
		if len(a) > 0 && dice.IntN(8) == 0 {
			a[dice.IntN(len(a))].Amount++
		}
		want, ok := nested(a, b, c)
		for _, l := range [][3][]api.Hold{{a, c, b}, {b, a, c}, {b, c, a}, {c, a, b}, {c, b, a}} {
			if got, is := nested(l[0], l[1], l[2]); !slices.Equal(got, want) || is != ok {
				t.Fatalf("of %v: %v, %v; want %v, %v", l, got, is, want, ok)
			}
		}
		if ok {
			went++
		} else {
			refused++
		}
	}
	if went < 500 || refused < 100 {
		t.Errorf("too little was tried: %d went, %d did not", went, refused)
	}
}

// P6.4: lists in many orders, some of them heard several times, and in groups.
func TestJoiningOfLists(t *testing.T) {
	dice := rand.New(rand.NewPCG(6, 5))
	for range 1000 {
		whole := randomHolds(dice, 16)
		var lists [][]api.Hold
		for range 1 + dice.IntN(6) {
			var l []api.Hold
			for _, h := range whole {
				if dice.IntN(2) == 0 {
					h.State = 1 + dice.IntN(3)
					l = append(l, h)
				}
			}
			lists = append(lists, l)
		}
		want := joinAll(t, lists)
		again := slices.Concat(lists, lists, lists[:dice.IntN(len(lists))])
		dice.Shuffle(len(again), func(i, j int) { again[i], again[j] = again[j], again[i] })
		half := 1 + dice.IntN(len(again)-1)
		grouped := joinAll(t, [][]api.Hold{joinAll(t, again[half:]), joinAll(t, again[:half])})
		if !slices.Equal(joinAll(t, again), want) || !slices.Equal(grouped, want) {
			t.Fatalf("of %v: %v; want %v", again, joinAll(t, again), want)
		}
		if self := joinAll(t, [][]api.Hold{want, want, lists[0], want}); !slices.Equal(self, want) {
			t.Fatalf("of %v with itself: %v", want, self)
		}
	}
}
