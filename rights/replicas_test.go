package rights_test

import (
	"math/rand/v2"
	"testing"

	"usufruct/api"
	"usufruct/rights"
)

// crowd is replicas that know of one another by states that they told at some time, late ones too.
type crowd struct {
	t      *testing.T
	dice   *rand.Rand
	states []api.Rights
	told   []api.Rights
	most   int // what each act is at most about
	done   [3]int
	failed [3]int
}

func newCrowd(t *testing.T, replicas, most int, seed uint64) *crowd {
	return &crowd{t: t, dice: rand.New(rand.NewPCG(seed, uint64(replicas))), states: make([]api.Rights, replicas), most: most}
}

// amount is often just what is free at k, or one more.
func (c *crowd) amount(k int) int {
	have, e := rights.Free(c.states[k], k)
	if e != api.OK {
		c.t.Fatal("Free:", e)
	}
	switch c.dice.IntN(5) {
	case 0:
		return have
	case 1:
		return have + 1
	case 2:
		return 0
	}
	return c.dice.IntN(c.most + 1)
}

// act is replica k's own giving, using or moving, by what it knows.
func (c *crowd) act(k int) {
	var r api.Rights
	var e api.Errno
	n, verb := c.amount(k), c.dice.IntN(3)
	have, _ := rights.Free(c.states[k], k)
	switch verb {
	case 0:
		n = c.dice.IntN(c.most + 1)
		r, e = rights.Give(c.states[k], k, n)
		have = n
	case 1:
		r, e = rights.Use(c.states[k], k, n)
	case 2:
		r, e = rights.Move(c.states[k], k, (k+1+c.dice.IntN(len(c.states)-1))%len(c.states), n)
	}
	if (e == api.OK) != (n <= have) {
		c.t.Fatalf("verb %d by %d of %d, that has %d: %d", verb, k, n, have, e)
	}
	if e != api.OK {
		c.failed[verb]++
		return
	}
	if !rights.Over(r, c.states[k]) {
		c.t.Fatalf("verb %d by %d: not over what was", verb, k)
	}
	c.done[verb]++
	c.states[k] = r
}

// hear joins replica k's state with one that some replica told, just now or long ago.
func (c *crowd) hear(k int) {
	if len(c.told) > 0 {
		heard := c.told[c.dice.IntN(len(c.told))]
		c.states[k] = rights.Join(c.states[k], heard)
	}
}

func (c *crowd) step() {
	k := c.dice.IntN(len(c.states))
	switch c.dice.IntN(4) {
	case 0:
		c.told = append(c.told, c.states[k])
	case 1:
		c.hear(k)
	default:
		c.act(k)
	}
}

// all joins the states, begun with replica k's.
func (c *crowd) all(k int) api.Rights {
	r := c.states[k]
	for i := range c.states {
		r = rights.Join(r, c.states[(k+i)%len(c.states)])
	}
	return r
}

// sumOfFree is what is free at all replicas; none may be below 0.
func (c *crowd) sumOfFree(r api.Rights) int {
	sum := 0
	for k := range 16 {
		n, e := rights.Free(r, k)
		if n < 0 || e != api.OK {
			c.t.Fatalf("free at %d: %d, %d", k, n, e)
		}
		sum += n
	}
	return sum
}

func (c *crowd) check() {
	for _, r := range c.states {
		c.sumOfFree(r)
	}
	r := c.all(0)
	if n, e := rights.Total(r); n != c.sumOfFree(r) || e != api.OK {
		c.t.Fatalf("Total: %d, %d; free in all: %d", n, e, c.sumOfFree(r))
	}
	if last := len(c.states) - 1; c.all(last) != r || !rights.Right(r) {
		c.t.Fatal("all joined: from another one on, or may not be")
	}
}

// P3.4: by two replicas up to all 16, in many orders.
func TestReplicasKeepTheirRights(t *testing.T) {
	for replicas := 2; replicas <= 16; replicas++ {
		for seed := range uint64(12) {
			c := newCrowd(t, replicas, 9, seed)
			for range 50 {
				for range 5 {
					c.step()
				}
				c.check()
			}
			if c.done[0] == 0 || c.done[1] == 0 || c.done[2] == 0 || c.failed[0] != 0 || c.failed[1] == 0 || c.failed[2] == 0 {
				t.Fatalf("%d replicas, seed %d: done %v, failed %v", replicas, seed, c.done, c.failed)
			}
		}
	}
}

// P3.4: of great numbers.
func TestReplicasKeepGreatRights(t *testing.T) {
	for seed := range uint64(40) {
		c := newCrowd(t, 5, most/64, seed)
		for range 60 {
			c.step()
			c.check()
		}
	}
}

// P3.4: all of 2^40 goes round once through all 16 replicas, each of which knows the one ahead of it; whoever is late sees no less than 0.
func TestAllRightsGoRound(t *testing.T) {
	c := newCrowd(t, 16, 0, 0)
	var e api.Errno
	if c.states[0], e = rights.Give(c.states[0], 0, most); e != api.OK {
		t.Fatal("Give:", e)
	}
	for k := range 15 {
		if c.states[k], e = rights.Move(c.states[k], k, k+1, most); e != api.OK {
			t.Fatalf("Move from %d: %d", k, e)
		}
		if _, e = rights.Use(c.states[k+1], k+1, 1); e != api.ErrRights {
			t.Fatalf("Use by %d, that has not heard of it: %d", k+1, e)
		}
		c.check()
		c.states[k+1] = rights.Join(c.states[k], c.states[k+1])
		c.check()
	}
	if c.states[15], e = rights.Use(c.states[15], 15, most); e != api.OK {
		t.Fatal("Use of all:", e)
	}
	c.check()
	if n, e := rights.Total(c.all(7)); n != 0 || e != api.OK {
		t.Errorf("Total: %d, %d", n, e)
	}
}

// P3.4: two that use at one time, each its own, in all orders of what they hear.
func TestTwoThatUseAtOneTime(t *testing.T) {
	r, _ := rights.Give(api.Rights{}, 0, 10)
	r, _ = rights.Move(r, 0, 1, 4)
	a, e := rights.Use(r, 0, 6)
	b, f := rights.Use(r, 1, 4)
	if e != api.OK || f != api.OK {
		t.Fatal("Use:", e, f)
	}
	for _, l := range [][]api.Rights{{a, b}, {b, a}, {r, a, r, b}, {b, r, r, a, b}} {
		all := api.Rights{}
		for _, s := range l {
			all = rights.Join(all, s)
		}
		for k := range 16 {
			if n, e := rights.Free(all, k); n != 0 || e != api.OK {
				t.Errorf("free at %d: %d, %d", k, n, e)
			}
		}
		if n, e := rights.Total(all); n != 0 || e != api.OK {
			t.Errorf("Total: %d, %d", n, e)
		}
	}
}
