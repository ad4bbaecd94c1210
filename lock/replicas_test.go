package lock_test

import (
	"math"
	"math/rand/v2"
	"slices"
	"testing"

	"usufruct/api"
	"usufruct/lock"
)

// joined joins a list, from its first one on.
func joined(l []api.Lock) api.Lock {
	all := l[0]
	for _, b := range l[1:] {
		all = lock.Join(all, b)
	}
	return all
}

// P5.3: of two in both orders, of three in both nestings, and of one with itself and again.
func TestJoiningHangsOnNoOrder(t *testing.T) {
	all := append(grid(0, 1), api.Lock{Seq: math.MinInt, Ver: math.MaxInt}, api.Lock{Seq: most, Ver: most, Holder: 15, Value: most}, api.Lock{Holder: 15, Value: -most}, api.Lock{Ver: -1, Holder: 16})
	for _, a := range all {
		for _, b := range all {
			ab := lock.Join(a, b)
			if ab != lock.Join(b, a) || lock.Join(ab, a) != ab || lock.Join(b, ab) != ab || lock.Join(a, a) != a {
				t.Errorf("Join of %v and %v", a, b)
			}
			for _, c := range all {
				if lock.Join(ab, c) != lock.Join(a, lock.Join(b, c)) {
					t.Errorf("Join of %v, %v and %v", a, b, c)
				}
			}
		}
	}
}

// P5.3: lists in many orders, some of them heard several times, and in groups.
func TestJoiningOfLists(t *testing.T) {
	dice := rand.New(rand.NewPCG(5, 3))
	for range 3000 {
		var l []api.Lock
		for range 1 + dice.IntN(8) {
			l = append(l, api.Lock{Seq: dice.IntN(3), Ver: dice.IntN(3), Holder: dice.IntN(16), Value: dice.IntN(5) - 2})
		}
		want := slices.MaxFunc(l, func(a, b api.Lock) int {
			if behind(a, b) {
				return 1
			}
			return -1
		})
		if joined(l) != want {
			t.Fatalf("of %v: %v; want %v", l, joined(l), want)
		}
		again := slices.Concat(l, l, l[:dice.IntN(len(l))])
		dice.Shuffle(len(again), func(i, j int) { again[i], again[j] = again[j], again[i] })
		half := 1 + dice.IntN(len(again)-1)
		if joined(again) != want || lock.Join(joined(again[half:]), joined(again[:half])) != want {
			t.Fatalf("of %v: %v; want %v", again, joined(again), want)
		}
	}
}

// place is what two states that are one have in common.
type place struct{ seq, ver int }

// crowd is replicas of one lock that know of one another by states that they told at some time, late ones too.
type crowd struct {
	t       *testing.T
	dice    *rand.Rand
	states  []api.Lock
	told    []api.Lock
	last    api.Lock           // what was done last, whoever knows of it
	made    map[place]api.Lock // each state that was ever made
	writes  map[int][]api.Lock // of each Seq
	written int
	passed  int
	refused int
}

// newCrowd begins as all stores do: each knows the one lock.
func newCrowd(t *testing.T, replicas int, l api.Lock, seed uint64) *crowd {
	w := &crowd{t: t, dice: rand.New(rand.NewPCG(seed, uint64(replicas))), made: map[place]api.Lock{}, writes: map[int][]api.Lock{}}
	w.states = slices.Repeat([]api.Lock{l}, replicas)
	w.note(l)
	return w
}

// note keeps a state that was made; there must be none of its Seq and Ver.
func (w *crowd) note(l api.Lock) {
	at := place{l.Seq, l.Ver}
	if other, there := w.made[at]; there {
		w.t.Fatalf("two of one Seq and Ver: %v, %v", other, l)
	}
	w.made[at] = l
	w.last = l
}

// act is replica k's own writing or passing on, by what it knows; whoever holds it must be let, and nobody else.
func (w *crowd) act(k int) {
	var l api.Lock
	var e api.Errno
	holds := w.states[k].Holder == k
	pass := w.dice.IntN(3) == 0
	if pass {
		l, e = lock.Pass(w.states[k], k, w.dice.IntN(len(w.states)))
	} else {
		l, e = lock.Write(w.states[k], k, w.dice.IntN(7)-3)
	}
	if !holds && e != api.ErrHolder || holds && e != api.OK {
		w.t.Fatalf("by %d of %v: %v, %d", k, w.states[k], l, e)
	}
	switch {
	case !holds:
		w.refused++
		return
	case pass:
		w.passed++
	default:
		w.written++
		w.writes[l.Seq] = append(w.writes[l.Seq], l)
	}
	w.note(l)
	w.states[k] = l
}

func (w *crowd) step() {
	k := w.dice.IntN(len(w.states))
	switch n := w.dice.IntN(4); {
	case n == 0:
		w.told = append(w.told, w.states[k])
	case n == 1 && len(w.told) > 0:
		// Of late ones too, and of one as often as it comes.
		w.states[k] = lock.Join(w.states[k], w.told[w.dice.IntN(len(w.told))])
	default:
		w.act(k)
	}
}

// check looks at what all know, and at the greatest of it: that is what was done last, and it has counted all writes of its Seq.
func (w *crowd) check() {
	holders := 0
	for k, l := range w.states {
		if w.made[place{l.Seq, l.Ver}] != l || !lock.Right(l) {
			w.t.Fatalf("replica %d knows %v, that nobody made", k, l)
		}
		if l.Holder == k {
			holders++
		}
	}
	greatest := joined(w.states)
	writes := w.writes[greatest.Seq]
	if greatest != w.last || greatest.Ver != len(writes) || holders > 1 {
		w.t.Fatalf("the greatest %v, the last %v, of %d writes; %d hold it", greatest, w.last, len(writes), holders)
	}
	for _, l := range writes {
		if l != greatest && lock.Compare(greatest, l) != 1 {
			w.t.Fatalf("a write %v that is behind the greatest %v", l, greatest)
		}
	}
	if len(writes) > 0 && writes[len(writes)-1] != greatest {
		w.t.Fatalf("the greatest %v is not the last write %v", greatest, writes[len(writes)-1])
	}
}

// P5.4: one replica up to all 16 write, pass on and hear of one another in many orders.
func TestReplicasHaveOneHistory(t *testing.T) {
	written, passed, refused := 0, 0, 0
	for replicas := 1; replicas <= 16; replicas++ {
		for seed := range uint64(8) {
			l, e := lock.New(int(seed)%replicas, 5)
			if e != api.OK {
				t.Fatal("New:", e)
			}
			w := newCrowd(t, replicas, l, seed)
			for range 500 {
				w.step()
				w.check()
			}
			written, passed, refused = written+w.written, passed+w.passed, refused+w.refused
		}
	}
	if written < 1000 || passed < 1000 || refused < 1000 {
		t.Errorf("too little was tried: %d written, %d passed on, %d refused", written, passed, refused)
	}
}

// P5.4: all orders in which three that wrote and passed on are heard of, by one that knows the oldest state alone.
func TestAllOrdersOfWhatIsHeard(t *testing.T) {
	first, _ := lock.New(0, 5)
	a, _ := lock.Write(first, 0, 9)
	b, _ := lock.Write(a, 0, 1)
	c, _ := lock.Pass(b, 0, 1)
	d, e := lock.Write(c, 1, -4)
	if e != api.OK {
		t.Fatal("Write:", e)
	}
	for _, l := range [][]api.Lock{{b, c, d}, {b, d, c}, {c, b, d}, {c, d, b}, {d, b, c}, {d, c, b}, {d, a, a, d, c, b, first}} {
		knows := first
		for _, m := range l {
			knows = lock.Join(knows, m)
			if _, e := lock.Write(knows, 2, 0); e != api.ErrHolder {
				t.Errorf("Write by 2 that knows %v: %d", knows, e)
			}
		}
		if knows != d {
			t.Errorf("of %v: %v", l, knows)
		}
	}
}

// P5.4: where Ver can grow no more the holder passes it on, to itself too, and goes on; where Seq can't, it stays where it is.
func TestReplicasAtTheEdge(t *testing.T) {
	l := api.Lock{Seq: most - 2, Ver: most - 1, Holder: 1, Value: 8}
	l = step(t, l, func() (api.Lock, api.Errno) { return lock.Write(l, 1, 9) }, api.OK)
	step(t, l, func() (api.Lock, api.Errno) { return lock.Write(l, 1, 9) }, api.ErrRange)
	l = step(t, l, func() (api.Lock, api.Errno) { return lock.Pass(l, 1, 1) }, api.OK)
	l = step(t, l, func() (api.Lock, api.Errno) { return lock.Write(l, 1, -9) }, api.OK)
	l = step(t, l, func() (api.Lock, api.Errno) { return lock.Pass(l, 1, 0) }, api.OK)
	step(t, l, func() (api.Lock, api.Errno) { return lock.Pass(l, 0, 1) }, api.ErrRange)
	l = step(t, l, func() (api.Lock, api.Errno) { return lock.Write(l, 0, 3) }, api.OK)
	if l != (api.Lock{Seq: most, Ver: 1, Value: 3}) {
		t.Error("at last:", l)
	}
}

// step makes another lock of l, that must be behind it.
func step(t *testing.T, l api.Lock, call func() (api.Lock, api.Errno), want api.Errno) api.Lock {
	t.Helper()
	m, e := call()
	if e != want || e == api.OK && (lock.Compare(m, l) != 1 || lock.Join(l, m) != m || !lock.Right(m)) {
		t.Fatalf("of %v: %v, %d; want %d", l, m, e, want)
	}
	return m
}
