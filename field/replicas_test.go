package field_test

import (
	"math/rand/v2"
	"testing"

	"usufruct/api"
	"usufruct/field"
)

// What a replica of a crowd does.
const (
	adding = iota
	taking
	handing
	reserving
	keeping
	dropping
	expiring
	verbs
)

// crowd is replicas of one counter with holds, that know of one another by states that they told at some time, late ones too.
type crowd struct {
	t       *testing.T
	dice    *rand.Rand
	states  []api.Field
	told    []api.Field
	value   int // what all of them did, whoever knows of it
	clock   int
	holds   int
	done    [verbs]int
	refused [verbs]int
}

// newCrowd begins as all stores do: each knows the new counter, and replica 0 has all rights.
func newCrowd(t *testing.T, replicas, init, low, high int, seed uint64) *crowd {
	f, e := field.Counter("crowd", init, low, high)
	if e != api.OK {
		t.Fatal("Counter:", e)
	}
	w := &crowd{t: t, dice: rand.New(rand.NewPCG(seed, uint64(replicas))), value: init}
	for range replicas {
		w.states = append(w.states, f)
	}
	return w
}

// amount is often just what a replica has loose, or one more.
func (w *crowd) amount(have int) int {
	switch w.dice.IntN(8) {
	case 0:
		return have
	case 1:
		return have + 1
	case 2:
		return 0
	}
	return w.dice.IntN(have + 2)
}

// act is replica k's own, by what it knows.
func (w *crowd) act(k int) {
	switch verb := w.dice.IntN(verbs); verb {
	case keeping, dropping:
		w.end(k, verb)
	case expiring:
		w.expire(k)
	default:
		w.goOn(k, verb)
	}
}

// goOn adds, takes, hands on or reserves: what is loose must go, and nothing else may.
func (w *crowd) goOn(k, verb int) {
	f := w.states[k]
	down, up := field.Loose(f, k)
	n, m := w.amount(down), w.amount(up)
	// To another one; of a single replica to one that nobody hears of.
	others := max(1, len(w.states)-1)
	to := (k + 1 + w.dice.IntN(others)) % (others + 1)
	within, by := n <= down, 0
	var g api.Field
	var e api.Errno
	switch verb {
	case adding:
		g, e = field.Add(f, k, m)
		within, by = m <= up, m
	case taking:
		g, e = field.Add(f, k, -max(n, 1))
		within, by = max(n, 1) <= down, -max(n, 1)
	case handing:
		g, e = field.Hand(f, k, to, n, m)
		within = n <= down && m <= up
	case reserving:
		// More than 16 in all are joined by nobody.
		if w.holds == api.MaxHolds {
			return
		}
		g, _, e = field.Reserve(f, k, n, w.clock+w.dice.IntN(30))
	}
	if within != (e == api.OK) || !within && e != api.ErrRights {
		w.t.Fatalf("verb %d by %d of %d down, %d up, that has %d, %d: %d", verb, k, n, m, down, up, e)
	}
	if !within {
		w.refused[verb]++
		return
	}
	if verb == reserving {
		w.holds++
	}
	w.done[verb]++
	w.value += by
	w.states[k] = g
}

// end ends one of replica k's own holds: one that is Held goes, and no other.
func (w *crowd) end(k, verb int) {
	state := []int{keeping: api.Kept, dropping: api.Gone}[verb]
	for _, h := range w.states[k].Holds {
		if h.Replica != k || w.dice.IntN(2) == 0 {
			continue
		}
		f, e := field.End(w.states[k], k, h.Number, state)
		if h.State != api.Held {
			if e != api.ErrState {
				w.t.Fatalf("End of %v as %d: %d", h, state, e)
			}
			w.refused[verb]++
			continue
		}
		if e != api.OK {
			w.t.Fatalf("End of %v as %d: %d", h, state, e)
		}
		if state == api.Kept {
			w.value -= h.Amount
		}
		w.done[verb]++
		w.states[k] = f
		return
	}
}

func (w *crowd) expire(k int) {
	was, _ := field.Loose(w.states[k], k)
	f, n := field.Expire(w.states[k], k, w.clock)
	over, count := 0, 0
	for _, h := range w.states[k].Holds {
		if h.Replica == k && h.State == api.Held && h.Due < w.clock {
			over, count = over+h.Amount, count+1
		}
	}
	if down, _ := field.Loose(f, k); n != count || down != was+over {
		w.t.Fatalf("Expire by %d at %d: %d of %d, loose %d behind %d", k, w.clock, n, count, down, was)
	}
	if n == 0 {
		w.refused[expiring]++
	}
	w.done[expiring] += n
	w.states[k] = f
}

func (w *crowd) join(a, b api.Field) api.Field {
	f, e := field.Join(a, b)
	if e != api.OK {
		w.t.Fatalf("Join of %v and %v: %d", a, b, e)
	}
	return f
}

func (w *crowd) step() {
	w.clock++
	k := w.dice.IntN(len(w.states))
	switch n := w.dice.IntN(4); {
	case n == 0:
		w.told = append(w.told, w.states[k])
	case n == 1 && len(w.told) > 0:
		// Of late ones too, and of one as often as it comes.
		w.states[k] = w.join(w.states[k], w.told[w.dice.IntN(len(w.told))])
	default:
		w.act(k)
	}
}

// all joins the states, begun with replica k's.
func (w *crowd) all(k int) api.Field {
	f := w.states[k]
	for i := range w.states {
		f = w.join(f, w.states[(k+i)%len(w.states)])
	}
	return f
}

// between is a value that must lie between the bounds, told by hand: near 2^40 View can't tell it behind much adding.
func (w *crowd) between(f api.Field) int {
	n := f.Counter.Init
	for k := range 16 {
		n += f.Counter.Up.Used[k] - f.Counter.Down.Used[k]
	}
	if n < f.Counter.Low || n > f.Counter.High || !field.Right(f) {
		w.t.Fatalf("value %d, from %d to %d", n, f.Counter.Low, f.Counter.High)
	}
	return n
}

// keepAll keeps all that is Held, in some order; none may be refused.
func (w *crowd) keepAll(f api.Field) api.Field {
	for _, i := range w.dice.Perm(len(f.Holds)) {
		h := f.Holds[i]
		if h.State != api.Held {
			continue
		}
		var e api.Errno
		if f, e = field.End(f, h.Replica, h.Number, api.Kept); e != api.OK {
			w.t.Fatalf("End as Kept of %v: %d", h, e)
		}
	}
	return f
}

// look holds what one state knows against P7.4, and answers its value.
func (w *crowd) look(f api.Field) int {
	for k := range 16 {
		if down, up := field.Loose(f, k); down < 0 || up < 0 {
			w.t.Fatalf("loose at %d: %d, %d", k, down, up)
		}
	}
	kept := 0
	for _, h := range f.Holds {
		if h.State == api.Held {
			kept += h.Amount
		}
	}
	n := w.between(f)
	if left := w.between(w.keepAll(f)); left != n-kept {
		w.t.Fatalf("all that is held, %d, kept of %d: %d", kept, n, left)
	}
	return n
}

func (w *crowd) check() {
	for _, f := range w.states {
		w.look(f)
	}
	f := w.all(0)
	if n := w.look(f); n != w.value {
		w.t.Fatalf("all know %d of %d", n, w.value)
	}
	if !field.Same(w.all(len(w.states)-1), f) {
		w.t.Fatal("all joined, from another one on")
	}
}

// run goes on for some steps, and looks again and again.
func (w *crowd) run(looks, steps int) {
	for range looks {
		for range steps {
			w.step()
		}
		w.check()
	}
}

// P7.4: by one replica up to all 16, in many orders.
func TestReplicasCanKeepWhatTheyHold(t *testing.T) {
	var done, refused [verbs]int
	for replicas := 1; replicas <= 16; replicas++ {
		for seed, l := range [][3]int{{5, 0, 10}, {30, 0, 30}, {0, 0, 30}, {-4, -9, 9}, {-20, -60, -10}, {0, -1, 1}, {100, 0, 1000}, {500, 0, 1000}} {
			w := newCrowd(t, replicas, l[0], l[1], l[2], uint64(seed))
			w.check()
			w.run(25, 8)
			for v := range verbs {
				done[v], refused[v] = done[v]+w.done[v], refused[v]+w.refused[v]
			}
		}
	}
	for v := range verbs {
		if done[v] < 100 || refused[v] < 100 {
			t.Errorf("too little was tried: done %v, refused %v", done, refused)
		}
	}
}

// P7.4: of great numbers, at both edges of what may be.
func TestReplicasWithGreatNumbers(t *testing.T) {
	const wide = most / 128
	for seed := range uint64(5) {
		for _, l := range [][3]int{{0, -wide, wide}, {most, most - wide, most}, {-most, -most, wide - most}, {most - wide, most - wide, most}, {1 - most, -most, 2 - most}} {
			newCrowd(t, 5, l[0], l[1], l[2], seed).run(20, 3)
		}
	}
}

// P7.4: all that there is is held, by one replica and by 16 of them: nobody can take any of it, and all of it can be kept.
func TestAllIsHeld(t *testing.T) {
	w := newCrowd(t, 16, 16, 0, 16, 0)
	var e api.Errno
	for k := 1; k < 16; k++ {
		if w.states[0], e = field.Hand(w.states[0], 0, k, 1, 0); e != api.OK {
			t.Fatalf("Hand to %d: %d", k, e)
		}
	}
	for k := range 16 {
		w.states[k] = w.join(w.states[k], w.states[0])
		if w.states[k], _, e = field.Reserve(w.states[k], k, 1, 9); e != api.OK {
			t.Fatalf("Reserve by %d: %d", k, e)
		}
		for _, n := range []int{-1, -2, -most} {
			if _, e := field.Add(w.states[k], k, n); e != api.ErrRights {
				t.Errorf("Add %d by %d: %d", n, k, e)
			}
		}
		if _, e := field.Hand(w.states[k], k, 0, 1, 0); e != api.ErrRights {
			t.Errorf("Hand by %d: %d", k, e)
		}
		if _, _, e := field.Reserve(w.states[k], k, 1, 9); e != api.ErrRights {
			t.Errorf("Reserve again by %d: %d", k, e)
		}
	}
	w.check()
	if n := w.between(w.keepAll(w.all(3))); n != 0 {
		t.Error("all kept:", n)
	}
	for k := range 16 {
		if w.states[k], e = field.End(w.states[k], k, 1, api.Kept); e != api.OK {
			t.Errorf("End by %d: %d", k, e)
		}
	}
	w.value = 0
	w.check()
}

// P7.4: a whole 2^40 is held, and kept.
func TestAllOfTheGreatestIsHeld(t *testing.T) {
	f, e := field.Counter("a", most, 0, most)
	if e != api.OK {
		t.Fatal("Counter:", e)
	}
	for _, n := range []int{most - 1, 1, 0} {
		if f, _, e = field.Reserve(f, 0, n, 9); e != api.OK {
			t.Fatalf("Reserve %d: %d", n, e)
		}
	}
	if _, _, e := field.Reserve(f, 0, 1, 9); e != api.ErrRights {
		t.Error("Reserve one more:", e)
	}
	w := &crowd{t: t, dice: rand.New(rand.NewPCG(7, 4)), states: []api.Field{f}, value: most}
	w.check()
	if n := w.between(w.keepAll(f)); n != 0 {
		t.Error("all kept:", n)
	}
}
