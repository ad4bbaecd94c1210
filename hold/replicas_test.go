package hold_test

import (
	"math/rand/v2"
	"slices"
	"testing"

	"usufruct/api"
	"usufruct/hold"
)

// name is what a hold is called by.
type name struct{ replica, number int }

// crowd is replicas of one field's holds, that know of one another by lists that they told at some time, late ones too.
type crowd struct {
	t      *testing.T
	dice   *rand.Rand
	states [][]api.Hold
	told   [][]api.Hold
	truth  map[name]api.Hold // each hold as its own replica has it
	clock  int
	ended  int
	late   int
}

// known is what all of them know.
func (w *crowd) known() []api.Hold {
	return joinAll(w.t, w.states)
}

// reserve is replica k's own; nobody reserves where there are 16 in all, as then they could be joined by nobody.
func (w *crowd) reserve(k int) {
	if len(w.truth) == api.MaxHolds {
		return
	}
	amount, due := w.dice.IntN(9), w.clock+w.dice.IntN(20)
	l, n, e := hold.Reserve(w.states[k], k, amount, due)
	if _, there := w.truth[name{k, n}]; e != api.OK || there {
		w.t.Fatalf("Reserve by %d of %v: %v, %d, %d", k, w.states[k], l, n, e)
	}
	w.truth[name{k, n}] = api.Hold{Replica: k, Number: n, Amount: amount, Due: due, State: api.Held}
	w.states[k] = l
}

// end lets one of replica k's own holds go on, if there is one that was not ended.
func (w *crowd) end(k int) {
	for _, h := range w.states[k] {
		if h.Replica != k || w.dice.IntN(2) == 0 {
			continue
		}
		state := api.Kept + w.dice.IntN(2)
		l, amount, e := hold.End(w.states[k], k, h.Number, state)
		if h.State != api.Held {
			if e != api.ErrState || len(l) != 0 || amount != 0 {
				w.t.Fatalf("End of %v: %v, %d, %d", h, l, amount, e)
			}
			w.late++
			continue
		}
		if e != api.OK || amount != h.Amount {
			w.t.Fatalf("End of %v: %v, %d, %d", h, l, amount, e)
		}
		w.states[k] = l
		h.State = state
		w.truth[name{k, h.Number}] = h
		w.ended++
		return
	}
}

func (w *crowd) expire(k int) {
	l, n := hold.Expire(w.states[k], k, w.clock)
	for i, h := range w.states[k] {
		if h != l[i] {
			n--
			w.truth[name{h.Replica, h.Number}] = l[i]
		}
		if h != l[i] && (h.Replica != k || h.Due >= w.clock || h.State != api.Held || l[i].State != api.Gone) {
			w.t.Fatalf("Expire by %d at %d: %v, %v", k, w.clock, h, l[i])
		}
	}
	if n != 0 {
		w.t.Fatalf("Expire by %d at %d of %v: %v, off by %d", k, w.clock, w.states[k], l, n)
	}
	w.states[k] = l
}

func (w *crowd) step() {
	w.clock++
	k := w.dice.IntN(len(w.states))
	switch w.dice.IntN(6) {
	case 0:
		w.told = append(w.told, w.states[k])
	case 1:
		w.reserve(k)
	case 2:
		w.end(k)
	case 3:
		w.expire(k)
	default:
		if len(w.told) > 0 {
			l, e := hold.Join(w.states[k], w.told[w.dice.IntN(len(w.told))])
			if e != api.OK {
				w.t.Fatalf("Join by %d: %d", k, e)
			}
			w.states[k] = l
		}
	}
}

// check holds what all know against each replica's own: what is not Held is so for good, wherever it is known.
func (w *crowd) check(before [][]api.Hold) {
	for k, l := range w.states {
		if !hold.Rights(l) {
			w.t.Fatalf("replica %d knows %v, that may not be", k, l)
		}
		for _, h := range l {
			own := w.truth[name{h.Replica, h.Number}]
			if h.State != api.Held && h != own || h.Replica == k && h != own {
				w.t.Fatalf("replica %d knows %v of %v", k, h, own)
			}
		}
		for _, h := range before[k] {
			if now, is := hold.Find(l, h.Replica, h.Number); !is || h.State != api.Held && now != h {
				w.t.Fatalf("replica %d knew %v, and knows %v", k, h, now)
			}
		}
	}
	known := w.known()
	if len(known) != len(w.truth) {
		w.t.Fatalf("all know %v, of %v", known, w.truth)
	}
	for _, h := range known {
		if h != w.truth[name{h.Replica, h.Number}] {
			w.t.Fatalf("all know %v, of %v", h, w.truth)
		}
	}
}

// P6.4: one replica up to all 16 reserve, end, let go and hear of one another in many orders.
func TestReplicasKeepWhatIsEnded(t *testing.T) {
	ended, late, full := 0, 0, 0
	for replicas := 1; replicas <= 16; replicas++ {
		for seed := range uint64(10) {
			w := &crowd{t: t, dice: rand.New(rand.NewPCG(seed, uint64(replicas))), states: make([][]api.Hold, replicas), truth: map[name]api.Hold{}}
			for range 200 {
				before := slices.Clone(w.states)
				w.step()
				w.check(before)
			}
			ended, late = ended+w.ended, late+w.late
			if len(w.truth) == api.MaxHolds {
				full++
			}
		}
	}
	if ended < 300 || late < 300 || full < 100 {
		t.Errorf("too little was tried: %d ended, %d that were ended, %d full", ended, late, full)
	}
}

// P6.4: what is Kept or Gone stays so, by whatever call, at all times.
func TestWhatIsNotHeldStays(t *testing.T) {
	for _, state := range []int{api.Kept, api.Gone} {
		h := sample()
		h.State = state
		l := []api.Hold{h}
		for _, now := range edges() {
			for _, k := range []int{h.Replica, 0, 15} {
				if m, n := expire(t, l, k, now); n != 0 || !slices.Equal(m, l) {
					t.Errorf("Expire of %v at %d: %v, %d", h, now, m, n)
				}
			}
		}
		for other := -1; other <= 5; other++ {
			if _, _, e := end(t, l, h.Replica, h.Number, other); e == api.OK {
				t.Errorf("End of %v as %d", h, other)
			}
		}
		if m, e := join(t, l, []api.Hold{sample()}); e != api.OK || !slices.Equal(m, l) {
			t.Errorf("Join of %v with one that is Held: %v, %d", h, m, e)
		}
		for k := range 16 {
			m, _, e := reserve(t, l, k, 1, 1)
			if got, is := hold.Find(m, h.Replica, h.Number); e != api.OK || !is || got != h {
				t.Errorf("Reserve by %d beside %v: %v, %d", k, h, m, e)
			}
		}
	}
}
