package wire_test

import (
	"math/rand/v2"
	"testing"

	"usufruct/api"
	"usufruct/field"
	"usufruct/hold"
	"usufruct/wire"
)

// change is what replica k does with its own part of a field, as chance has it.
func change(chance *rand.Rand, f api.Field, k int) api.Field {
	down, up := field.Loose(f, k)
	var g api.Field
	e := api.ErrNone
	switch chance.IntN(7) {
	case 0:
		g, e = field.Add(f, k, chance.IntN(up+1))
	case 1:
		g, e = field.Add(f, k, -chance.IntN(down+1))
	case 2:
		g, e = field.Hand(f, k, (k+1+chance.IntN(15))%16, chance.IntN(down+1), chance.IntN(up+1))
	case 3:
		if len(f.Holds) < 5 {
			g, _, e = field.Reserve(f, k, chance.IntN(down+1), chance.IntN(50))
		}
	case 4:
		if len(f.Holds) > 0 {
			h := f.Holds[chance.IntN(len(f.Holds))]
			g, e = field.End(f, k, h.Number, api.Kept+chance.IntN(2))
		}
	case 5:
		g, e = field.Write(f, k, chance.IntN(100)-50)
	case 6:
		g, e = field.Pass(f, k, chance.IntN(4))
	}
	if e != api.OK {
		return f
	}
	return g
}

// commutes holds Down of a join against the join of what Down leaves of both, in each format; it tells whether both could be joined.
func commutes(t *testing.T, a, b api.Field) bool {
	t.Helper()
	both, e := field.Join(a, b)
	if e != api.OK {
		return false
	}
	for version := 1; version <= 3; version++ {
		left, rest, e := wire.Down(version, both)
		if e != api.OK {
			t.Fatalf("Down(%d, a join): %d", version, e)
		}
		x, r, _ := wire.Down(version, a)
		y, s, _ := wire.Down(version, b)
		l, e := field.Join(x, y)
		if !alike(l, left) || e != api.OK {
			t.Fatalf("format %d: joined behind Down %v, %d; ahead of it %v", version, l, e, left)
		}
		holds, e := hold.Join(r.Holds, s.Holds)
		if q := (wire.Residue{Epoch: r.Epoch, Holds: holds}); !alikeResidues(q, rest) || r.Epoch != s.Epoch || e != api.OK {
			t.Fatalf("format %d: residues joined behind Down %v, %d; ahead of it %v", version, q, e, rest)
		}
		if up, e := wire.Up(l, wire.Residue{Epoch: r.Epoch, Holds: holds}); !alike(up, both) || e != api.OK {
			t.Fatalf("format %d: Up of what was joined behind Down: %v, %d; want %v", version, up, e, both)
		}
	}
	return true
}

// P10.3, P10.4: fields as replicas come to have them, that change their own part and hear of one another as bytes: Down commutes with joining them, and what is encoded is decoded.
func TestReplicas(t *testing.T) {
	chance := rand.New(rand.NewPCG(10, 4))
	joins, held := 0, 0
	for round := range 120 {
		states := started(round)
		for range 60 {
			k := chance.IntN(len(states))
			states[k] = change(chance, states[k], k)
			if chance.IntN(3) > 0 {
				continue
			}
			i := chance.IntN(len(states))
			if !commutes(t, states[k], states[i]) {
				continue
			}
			joins++
			if len(states[k].Holds) > 0 && len(states[i].Holds) > 0 {
				held++
			}
			states[k], _ = field.Join(states[k], heard(t, states[i]))
		}
	}
	if joins < 1000 || held < 300 {
		t.Error("joins, and those of holds:", joins, held)
	}
}

// started is what 4 replicas have at first: the same counter, or lock, of epoch 0, or of a later one.
func started(round int) []api.Field {
	f := fresh()
	f.Counter = of(-1000, 0, 1000)
	if round%3 == 2 {
		f = locked()
	}
	if round%2 == 1 {
		f.Epoch = 1 + round*round
	}
	return []api.Field{f, f, f, f}
}

// heard is a field as it comes from another replica: encoded in the least format that can say it, and decoded.
func heard(t *testing.T, f api.Field) api.Field {
	t.Helper()
	version := 1
	for !wire.Says(version, f) {
		version++
	}
	b, e := wire.Encode(version, f)
	if e != api.OK {
		t.Fatalf("Encode(%d, %v): %d", version, f, e)
	}
	v, g, e := decode(t, string(b))
	if v != version || !alike(f, g) || e != api.OK {
		t.Fatalf("Decode of %v: %d, %v, %d", f, v, g, e)
	}
	return g
}

// P10.4: of fields of which the holds can't be joined what is left of both can be, where a format can't say holds.
func TestTooManyHolds(t *testing.T) {
	a := with(fresh(), func(f *api.Field) { f.Holds = heldBy(16) })
	b := with(fresh(), func(f *api.Field) { f.Holds = []api.Hold{{Replica: 9, Number: 1, State: api.Held}} })
	if commutes(t, a, b) {
		t.Error("17 holds were joined")
	}
	for version, want := range map[int]api.Errno{1: api.OK, 2: api.ErrFull, 3: api.ErrFull} {
		x, _, _ := wire.Down(version, a)
		y, _, _ := wire.Down(version, b)
		if _, e := field.Join(x, y); e != want {
			t.Errorf("join of what format %d leaves: %d; want %d", version, e, want)
		}
	}
	b.Holds = a.Holds[3:9]
	if !commutes(t, a, b) || !commutes(t, b, a) || !commutes(t, a, fresh()) {
		t.Error("16 holds were not joined")
	}
}
