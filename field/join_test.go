package field_test

import (
	"math/rand/v2"
	"slices"
	"testing"

	"usufruct/api"
	"usufruct/counter"
	"usufruct/field"
	"usufruct/hold"
	"usufruct/lock"
)

// joined is P7.3, word for word.
func joined(a, b api.Field) answer {
	if a.Name != b.Name || a.Kind != b.Kind || a.Epoch != b.Epoch {
		return none(api.ErrArg)
	}
	c, e := counter.Join(a.Counter, b.Counter)
	if e != api.OK {
		return none(e)
	}
	l, e := hold.Join(a.Holds, b.Holds)
	if e != api.OK {
		return none(e)
	}
	return answer{f: api.Field{Name: a.Name, Kind: a.Kind, Epoch: a.Epoch, Counter: c, Lock: lock.Join(a.Lock, b.Lock), Holds: l}}
}

// join holds Join against the document's words, and looks at both that it was handed.
func join(t *testing.T, a, b api.Field) answer {
	t.Helper()
	other := guarded(b)
	got := ask(t, a, joined(a, b), "Join", func(f api.Field) (c answer) {
		c.f, c.e = field.Join(f, other)
		return c
	})
	if !untouched(other, b) {
		t.Fatalf("Join of %v and %v has changed, or shares, the second one", a, b)
	}
	return got
}

// P7.3: all fields with all.
func TestJoin(t *testing.T) {
	goes := 0
	for _, a := range allFields() {
		for _, b := range allFields() {
			if got := join(t, a, b); got.e == api.OK {
				goes++
			}
		}
	}
	if goes < 100 {
		t.Error("too few could be joined:", goes)
	}
}

// P7.3: two that differ in Name, in Kind or in Epoch alone, in either order, that which comes first told first.
func TestJoinOfOthers(t *testing.T) {
	for _, f := range []api.Field{fresh(), busy(), locked()} {
		for i, change := range []func(*api.Field){
			func(f *api.Field) { f.Name = "b" },
			func(f *api.Field) { f.Name += "x" },
			func(f *api.Field) { f.Name = "" },
			func(f *api.Field) { f.Kind = 3 - f.Kind },
			func(f *api.Field) { f.Kind = 0 },
			func(f *api.Field) { f.Epoch++ },
			func(f *api.Field) { f.Epoch-- },
			func(f *api.Field) { f.Epoch++; f.Holds = slices.Concat(f.Holds, held(17)) },
		} {
			g := with(f, change)
			if a, b := join(t, f, g), join(t, g, f); a.e != api.ErrArg || b.e != api.ErrArg {
				t.Errorf("Join of two that differ, %d: %d, %d", i, a.e, b.e)
			}
		}
	}
}

// P7.3: counters that can't be joined, holds that can't, and both, whose first error is ErrArg, ahead of ErrFull.
func TestJoinOfParts(t *testing.T) {
	other := func(f *api.Field) { f.Counter.High++ }
	due := func(f *api.Field) { f.Holds = slices.Clone(f.Holds); f.Holds[0].Due++ }
	amount := func(f *api.Field) { f.Holds = slices.Clone(f.Holds); f.Holds[4].Amount++ }
	wrong := func(f *api.Field) { f.Holds = slices.Clone(f.Holds); f.Holds[1].State = 0 }
	more := func(n int) func(*api.Field) {
		return func(f *api.Field) {
			f.Holds = nil
			for i := range n {
				f.Holds = append(f.Holds, api.Hold{Replica: 4, Number: i + 1, State: api.Gone})
			}
		}
	}
	for i, c := range []struct {
		changes []func(*api.Field)
		want    api.Errno
	}{
		{nil, api.OK},
		{[]func(*api.Field){other}, api.ErrArg},
		{[]func(*api.Field){func(f *api.Field) { f.Counter.Low-- }}, api.ErrArg},
		{[]func(*api.Field){func(f *api.Field) { f.Counter.Init++ }}, api.ErrArg},
		{[]func(*api.Field){func(f *api.Field) { f.Counter.Up.Used[9]++ }}, api.OK},
		{[]func(*api.Field){due}, api.ErrArg},
		{[]func(*api.Field){amount}, api.ErrArg},
		{[]func(*api.Field){wrong}, api.ErrArg},
		{[]func(*api.Field){more(11)}, api.OK},
		{[]func(*api.Field){more(12)}, api.ErrFull},
		{[]func(*api.Field){more(16)}, api.ErrFull},
		{[]func(*api.Field){more(17)}, api.ErrArg},
		{[]func(*api.Field){more(12), other}, api.ErrArg},
		{[]func(*api.Field){more(12), func(f *api.Field) { f.Epoch++ }}, api.ErrArg},
	} {
		g := busy()
		for _, change := range c.changes {
			change(&g)
		}
		if a, b := join(t, busy(), g), join(t, g, busy()); a.e != c.want || b.e != c.want {
			t.Errorf("Join %d: %d, %d; want %d", i, a.e, b.e, c.want)
		}
	}
}

// P7.3: of a lock the one that is behind; of a counter what both did, and the holds of both.
func TestJoinKnowsBoth(t *testing.T) {
	w := write(t, locked(), 3, 77)
	p := pass(t, locked(), 3, 0)
	for i, c := range [][3]api.Field{{locked(), w.f, w.f}, {w.f, locked(), w.f}, {w.f, p.f, p.f}, {p.f, w.f, p.f}, {p.f, p.f, p.f}} {
		if a := join(t, c[0], c[1]); a.e != api.OK || !alike(a.f, c[2]) {
			t.Errorf("Join of locks, %d: %v", i, a)
		}
	}
	took := add(t, busy(), 0, -3)
	kept := end(t, busy(), 2, 1, api.Kept)
	more := reserve(t, busy(), 15, 30, 8)
	all := join(t, join(t, took.f, kept.f).f, more.f)
	if v, e := field.View(all.f); v != 99-3-20 || e != api.OK || all.e != api.OK {
		t.Errorf("Join: %d, %d, %d", v, e, all.e)
	}
	if down, _ := field.Loose(all.f, 15); down != 10 || len(all.f.Holds) != 6 {
		t.Errorf("Join: loose %d, %v", down, all.f.Holds)
	}
	if h, _ := hold.Find(all.f.Holds, 2, 1); h.State != api.Kept {
		t.Errorf("Join: %v", h)
	}
}

// P7.3: all parts are joined, those too that a field of its kind does not have.
func TestJoinOfAllParts(t *testing.T) {
	for _, kind := range []int{1, 2, 0, 3, -1} {
		a := with(busy(), func(f *api.Field) { f.Kind, f.Lock = kind, locked().Lock })
		b := with(fresh(), func(f *api.Field) {
			f.Name, f.Kind, f.Epoch = a.Name, kind, a.Epoch
			f.Counter = busy().Counter
			f.Counter.Down.Used[7] = 3
			f.Lock.Seq = 9
			f.Holds = held(1)
			f.Holds[0].Replica = 5
		})
		got := join(t, a, b)
		if got.e != api.OK || got.f.Lock != b.Lock || got.f.Counter != b.Counter || len(got.f.Holds) != 6 {
			t.Errorf("Join of kind %d: %v", kind, got)
		}
	}
	if got := join(t, api.Field{}, api.Field{}); got.e != api.OK || !alike(got.f, api.Field{}) {
		t.Errorf("Join of zero ones: %v", got)
	}
}

// grown is f behind some things that its replicas did to it.
func grown(t *testing.T, dice *rand.Rand, f api.Field) api.Field {
	for range dice.IntN(6) {
		k := []int{0, 2, 15}[dice.IntN(3)]
		a := none(api.ErrNone)
		switch dice.IntN(7) {
		case 0:
			a = add(t, f, k, dice.IntN(40)-20)
		case 1:
			a = hand(t, f, k, dice.IntN(16), dice.IntN(10), dice.IntN(10))
		case 2:
			a = end(t, f, k, 1, api.Kept)
		case 3:
			a = end(t, f, k, 1, api.Gone)
		case 4:
			a = expire(t, f, k, dice.IntN(10))
		case 5:
			a = write(t, f, f.Lock.Holder, dice.IntN(3))
		case 6:
			a = pass(t, f, f.Lock.Holder, dice.IntN(3))
		}
		if a.e == api.OK {
			f = a.f
		}
	}
	return f
}

// P7.3: to join hangs on no order, nor on how often.
func TestJoinInAnyOrder(t *testing.T) {
	dice := rand.New(rand.NewPCG(7, 3))
	for range 500 {
		for _, f := range []api.Field{busy(), locked()} {
			a, b, c := grown(t, dice, f), grown(t, dice, f), grown(t, dice, f)
			ab, ba := join(t, a, b), join(t, b, a)
			bc := join(t, b, c)
			left, right := join(t, ab.f, c), join(t, a, bc.f)
			if !alike(ab.f, ba.f) || !alike(left.f, right.f) || left.e != api.OK || right.e != api.OK {
				t.Fatalf("Join of %v, %v, %v: %v, %v", a, b, c, left, right)
			}
			for _, x := range []api.Field{a, b, c, ab.f, left.f} {
				if again := join(t, left.f, x); !field.Same(again.f, left.f) {
					t.Fatalf("Join again of %v and %v: %v", left.f, x, again)
				}
			}
		}
	}
}
