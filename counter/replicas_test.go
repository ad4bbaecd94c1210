package counter_test

import (
	"math/rand/v2"
	"testing"

	"usufruct/api"
	"usufruct/counter"
)

// What a replica of a crowd does.
const (
	up = iota
	down
	on
	verbs
)

// crowd is replicas of one counter that know of one another by states that they told at some time, late ones too.
type crowd struct {
	t      *testing.T
	dice   *rand.Rand
	states []api.Counter
	told   []api.Counter
	value  int // what all of them did, whoever knows of it
	done   [verbs]int
	failed [verbs]int
}

// newCrowd begins as all stores do: each knows the new counter, and replica 0 has all rights.
func newCrowd(t *testing.T, replicas, init, low, high int, seed uint64) *crowd {
	c, e := counter.New(init, low, high)
	if e != api.OK {
		t.Fatal("New:", e)
	}
	w := &crowd{t: t, dice: rand.New(rand.NewPCG(seed, uint64(replicas))), value: init}
	for range replicas {
		w.states = append(w.states, c)
	}
	return w
}

// amount is often just what a replica has, or one more.
func (w *crowd) amount(have int) int {
	switch w.dice.IntN(6) {
	case 0:
		return have
	case 1:
		return have + 1
	case 2:
		return 0
	}
	return w.dice.IntN(have + 2)
}

// act is replica k's own adding, taking or handing on, by what it knows; what is within its rights must go, and nothing else may.
func (w *crowd) act(k int) {
	haveDown, haveUp := counter.Room(w.states[k], k)
	n, m := w.amount(haveUp), w.amount(haveDown)
	verb := w.dice.IntN(verbs)
	var c api.Counter
	var e api.Errno
	within, change := true, 0
	switch verb {
	case up:
		c, e = counter.Inc(w.states[k], k, n)
		within, change = n <= haveUp, n
	case down:
		c, e = counter.Dec(w.states[k], k, m)
		within, change = m <= haveDown, -m
	case on:
		c, e = counter.Hand(w.states[k], k, (k+1+w.dice.IntN(len(w.states)-1))%len(w.states), m, n)
		within = n <= haveUp && m <= haveDown
	}
	if within != (e == api.OK) || !within && e != api.ErrRights {
		w.t.Fatalf("verb %d by %d of %d up, %d down, that has %d, %d: %d", verb, k, n, m, haveUp, haveDown, e)
	}
	if e != api.OK {
		w.failed[verb]++
		return
	}
	w.done[verb]++
	w.value += change
	w.states[k] = c
}

func (w *crowd) join(a, b api.Counter) api.Counter {
	c, e := counter.Join(a, b)
	if e != api.OK {
		w.t.Fatal("Join:", e)
	}
	return c
}

func (w *crowd) step() {
	k := w.dice.IntN(len(w.states))
	switch n := w.dice.IntN(4); {
	case n == 0:
		w.told = append(w.told, w.states[k])
	case n == 1 && len(w.told) > 0:
		// Of late ones too, and of one as often as it comes.
		w.states[k] = w.join(w.states[k], w.told[w.dice.IntN(len(w.told))])
	default:
		w.act(k)
	}
}

// all joins the states, begun with replica k's.
func (w *crowd) all(k int) api.Counter {
	c := w.states[k]
	for i := range w.states {
		c = w.join(c, w.states[(k+i)%len(w.states)])
	}
	return c
}

// known is the value of a state, that must lie between the bounds. Where Init lies near 2^40 Value can't tell it behind much adding, by its own rule; the value is there all the same.
func (w *crowd) known(c api.Counter) int {
	n := c.Init + sum(c.Up.Used) - sum(c.Down.Used)
	if n < c.Low || n > c.High || !counter.Right(c) {
		w.t.Fatalf("value %d, from %d to %d", n, c.Low, c.High)
	}
	want, we := n, api.OK
	if c.Init+sum(c.Up.Used) > most {
		want, we = 0, api.ErrRange
	}
	if got, e := counter.Value(c); got != want || e != we {
		w.t.Fatalf("Value: %d, %d; want %d, %d", got, e, want, we)
	}
	return n
}

func (w *crowd) check() {
	for _, c := range w.states {
		w.known(c)
	}
	c := w.all(0)
	n := w.known(c)
	freeDown, freeUp := 0, 0
	for k := range 16 {
		down, up := counter.Room(c, k)
		if down < 0 || up < 0 {
			w.t.Fatalf("free at %d: %d, %d", k, down, up)
		}
		freeDown, freeUp = freeDown+down, freeUp+up
	}
	if n != w.value || freeDown != n-c.Low || freeUp != c.High-n {
		w.t.Fatalf("value %d of %d, from %d to %d; free %d, %d", n, w.value, c.Low, c.High, freeDown, freeUp)
	}
	if w.all(len(w.states)-1) != c {
		w.t.Fatal("all joined, from another one on")
	}
}

// run goes on for some steps, and looks again and again.
func (w *crowd) run(looks, steps int) {
	for range looks {
		for range steps {
			w.step()
		}
		w.check()
	}
}

// P4.3: by two replicas up to all 16, in many orders.
func TestReplicasKeepBetweenTheBounds(t *testing.T) {
	var done, failed [verbs]int
	for replicas := 2; replicas <= 16; replicas++ {
		for seed, l := range [][3]int{{5, 0, 10}, {0, 0, 30}, {30, 0, 30}, {-4, -9, 9}, {-20, -40, -10}, {0, -1, 1}, {0, 0, 1}, {100, 0, 1000}} {
			w := newCrowd(t, replicas, l[0], l[1], l[2], uint64(seed))
			w.check()
			w.run(40, 6)
			for v := range verbs {
				done[v], failed[v] = done[v]+w.done[v], failed[v]+w.failed[v]
			}
		}
	}
	for v := range verbs {
		if done[v] < 1000 || failed[v] < 1000 {
			t.Errorf("too little was tried: done %v, failed %v", done, failed)
		}
	}
}

// P4.3: where there is no room nothing goes but nothing.
func TestReplicasWithoutRoom(t *testing.T) {
	for seed, n := range []int{0, 7, -7, most, -most} {
		w := newCrowd(t, 4, n, n, n, uint64(seed))
		w.run(30, 3)
		if c := w.all(2); w.value != n || c != w.states[0] {
			t.Errorf("of %d: %d", n, w.value)
		}
	}
}

// P4.3: of great numbers, at both edges of what may be.
func TestReplicasWithGreatNumbers(t *testing.T) {
	const wide = most / 128
	for seed := range uint64(10) {
		for _, l := range [][3]int{{0, -wide, wide}, {most, most - wide, most}, {-most, -most, wide - most}, {most - wide, most - wide, most}, {1 - most, -most, 2 - most}} {
			newCrowd(t, 5, l[0], l[1], l[2], seed).run(30, 2)
		}
	}
}

// P4.3: all of 2^40 goes round once through all 16 replicas, each of which knows the one ahead of it; whoever has not heard of it has no rights.
func TestAllRightsGoRound(t *testing.T) {
	w := newCrowd(t, 16, most, 0, most, 0)
	var e api.Errno
	for k := range 15 {
		if w.states[k], e = counter.Hand(w.states[k], k, k+1, most, 0); e != api.OK {
			t.Fatalf("Hand from %d: %d", k, e)
		}
		if _, e = counter.Dec(w.states[k+1], k+1, 1); e != api.ErrRights {
			t.Fatalf("Dec by %d, that has not heard of it: %d", k+1, e)
		}
		w.check()
		w.states[k+1] = w.join(w.states[k+1], w.states[k])
		w.check()
	}
	if w.states[15], e = counter.Dec(w.states[15], 15, most); e != api.OK {
		t.Fatal("Dec of all:", e)
	}
	w.value = 0
	w.check()
	if w.states[15], e = counter.Hand(w.states[15], 15, 0, 0, most); e != api.OK {
		t.Fatal("Hand back:", e)
	}
	w.check()
}

// P4.3: two that take at one time, and one that adds, each within its rights, in all orders of what is heard.
func TestThreeAtOneTime(t *testing.T) {
	c, _ := counter.New(5, 0, 10)
	c, _ = counter.Hand(c, 0, 1, 3, 0)
	c, _ = counter.Hand(c, 0, 2, 0, 5)
	a, e := counter.Dec(c, 0, 2)
	b, f := counter.Dec(c, 1, 3)
	d, g := counter.Inc(c, 2, 5)
	if e != api.OK || f != api.OK || g != api.OK {
		t.Fatal("Dec, Dec, Inc:", e, f, g)
	}
	w := &crowd{t: t, value: 5}
	for _, l := range [][]api.Counter{{a, b, d}, {a, d, b}, {b, a, d}, {b, d, a}, {d, a, b}, {d, b, a}, {c, a, a, c, b, d, a}} {
		w.states = l
		w.check()
	}
	for i, l := range [][]api.Counter{{a, b}, {a, d}, {b, d}} {
		w.states, w.value = l, []int{0, 8, 7}[i]
		w.check()
	}
}
