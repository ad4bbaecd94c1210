package rights_test

import (
	"math"
	"math/big"
	"testing"

	"usufruct/api"
	"usufruct/rights"
)

const most = 1 << 40

// places is how many numbers rights have: 16 given, 16 used, 16 times 16 moved.
const places = 16 + 16 + 16*16

// edges: ordinary numbers, both edges of what a vector may have and of what a number may be, one beyond each, and the outermost ints.
func edges() []int {
	return []int{0, 1, 7, -1, -7, most - 1, most, most + 1, 1 - most, -most, -most - 1, math.MaxInt - 1, math.MaxInt, math.MinInt, math.MinInt + 1}
}

// noReplicas are numbers that no replica has.
func noReplicas() []int {
	return []int{-1, 16, -16, 17, 255, 1 << 32, -1 << 32, math.MaxInt, math.MinInt}
}

// at is number p of all that rights have.
func at(r *api.Rights, p int) *int {
	if p < 16 {
		return &r.Given[p]
	}
	if p < 32 {
		return &r.Used[p-16]
	}
	return &r.Moved[(p-32)/16][p%16]
}

// put is r with n at place p.
func put(r api.Rights, p, n int) api.Rights {
	*at(&r, p) = n
	return r
}

// toItself tells whether place p is what a replica moved to itself.
func toItself(p int) bool {
	return p >= 32 && (p-32)/16 == p%16
}

// full may be, has a number of its own at each place where one may, and much that is free at each replica.
func full() api.Rights {
	var r api.Rights
	for p := range places {
		if !toItself(p) {
			*at(&r, p) = p + 1
		}
	}
	for k := range 16 {
		r.Given[k] += 100000
	}
	return r
}

// small: 5 given to 0, 3 of them moved to 1, 9 given to 15, 2 of them used and 4 moved to 0: free 6, 3 and 3.
func small() api.Rights {
	var r api.Rights
	r.Given[0], r.Given[15] = 5, 9
	r.Used[15] = 2
	r.Moved[0][1], r.Moved[15][0] = 3, 4
	return r
}

// some: rights of each sort; ones that may be, ones that may not, and each edge at some places.
func some() []api.Rights {
	l := []api.Rights{{}, full(), small()}
	for _, n := range edges() {
		for _, p := range []int{0, 15, 16, 31, 32, 33, 47, 32 + 15*16, places - 2, places - 1} {
			l = append(l, put(small(), p, n))
		}
		even := api.Rights{}
		for p := range places {
			*at(&even, p) = n
		}
		l = append(l, even)
	}
	return l
}

// tally adds and takes off in numbers that have no end, by num.Sum's rule: the first sum, or number, that may not be ends it.
type tally struct {
	all big.Int
	bad bool
}

func (t *tally) add(sign int64, l ...int) {
	limit := big.NewInt(most)
	for _, n := range l {
		x := big.NewInt(int64(n))
		t.bad = t.bad || x.CmpAbs(limit) > 0
		t.all.Add(&t.all, x.Mul(x, big.NewInt(sign)))
		t.bad = t.bad || t.all.CmpAbs(limit) > 0
	}
}

func (t *tally) told() (int, api.Errno) {
	if t.bad {
		return 0, api.ErrRange
	}
	return int(t.all.Int64()), api.OK
}

// free is P3.1's rule of Free, of a replica.
func free(r api.Rights, k int) (int, api.Errno) {
	var t tally
	t.add(1, r.Given[k])
	for i := range 16 {
		t.add(1, r.Moved[i][k])
	}
	t.add(-1, r.Used[k])
	for i := range 16 {
		t.add(-1, r.Moved[k][i])
	}
	return t.told()
}

// total is P3.1's rule of Total.
func total(r api.Rights) (int, api.Errno) {
	var t tally
	t.add(1, r.Given[:]...)
	t.add(-1, r.Used[:]...)
	return t.told()
}

// grown is what must be told where place p is to grow by n, and nothing else is against it.
func grown(r api.Rights, p, n int) (api.Rights, api.Errno) {
	var t tally
	t.add(1, *at(&r, p), n)
	sum, e := t.told()
	if e != api.OK {
		return api.Rights{}, e
	}
	return put(r, p, sum), api.OK
}

// spent is P3.2's rule: replica k's place p grows by n, if n is free at k.
func spent(r api.Rights, k, p, n int) (api.Rights, api.Errno) {
	if n < 0 {
		return api.Rights{}, api.ErrArg
	}
	have, e := free(r, k)
	if e != api.OK {
		return api.Rights{}, e
	}
	if n > have {
		return api.Rights{}, api.ErrRights
	}
	return grown(r, p, n)
}

// P3.1
func TestRightOfRightsThatMayBe(t *testing.T) {
	even := api.Rights{}
	for p := range places {
		if !toItself(p) {
			*at(&even, p) = most
		}
	}
	used := api.Rights{Used: api.Vec{7, 15: 1}}
	for i, r := range []api.Rights{{}, full(), small(), even, used} {
		if !rights.Right(r) {
			t.Error("may be:", i)
		}
	}
}

// P3.1: one number alone decides, wherever it stands.
func TestRightOfEdges(t *testing.T) {
	for p := range places {
		for _, n := range edges() {
			want := n >= 0 && n <= 1099511627776
			if toItself(p) {
				want = n == 0
			}
			for i, r := range []api.Rights{{}, small(), full()} {
				if got := rights.Right(put(r, p, n)); got != want {
					t.Errorf("Right of %d with %d at place %d: %v", i, n, p, got)
				}
			}
		}
	}
}

// P3.1: the chapter's example, and what is below 0.
func TestFreeOfKnownRights(t *testing.T) {
	r := small()
	r.Used[7] = 4
	r.Moved[8][9] = 2
	want := [16]int{0: 6, 1: 3, 7: -4, 8: -2, 9: 2, 15: 3}
	for k := range 16 {
		if got, e := rights.Free(r, k); got != want[k] || e != api.OK {
			t.Errorf("Free at %d: %d, %d; want %d", k, got, e, want[k])
		}
		if got, e := rights.Free(api.Rights{}, k); got != 0 || e != api.OK {
			t.Errorf("Free of none at %d: %d, %d", k, got, e)
		}
	}
}

// P3.1: added from what was given on, to what was moved to the last one: the order decides at the edge.
func TestFreeTellsTheFirstSumThatMayNotBe(t *testing.T) {
	for i, c := range []struct {
		given, in0, in15, used, out0, out15 int
		want                                int
		e                                   api.Errno
	}{
		{given: most, want: most},
		{given: most + 1, used: 1, e: api.ErrRange},
		{given: -most, want: -most},
		{given: most, used: most, out0: most, want: -most},
		{given: most, used: most, out0: most, out15: 1, e: api.ErrRange},
		{given: most, in0: 1, used: 1, e: api.ErrRange},
		{given: most, in0: -1, in15: 1, want: most},
		{given: most, in0: 1, in15: -1, e: api.ErrRange},
		{given: -1, in0: most, in15: 1, want: most},
		{given: 1, in0: most, in15: -1, e: api.ErrRange},
		{given: 1, in15: most, used: 1, out0: most, e: api.ErrRange},
		{given: 1, used: -most, out0: 1, e: api.ErrRange},
		{used: -most, out0: 1, out15: -1, want: most},
		{used: -most, out0: -1, out15: 1, e: api.ErrRange},
		{in0: most - 1, in15: 1, used: 1, out15: most - 1},
		{used: most, out15: 1, e: api.ErrRange},
		{used: most, out15: -1, want: 1 - most},
		{used: math.MinInt, e: api.ErrRange},
		{out0: math.MinInt, out15: math.MinInt, e: api.ErrRange},
		{given: math.MaxInt, in0: math.MinInt, in15: 1, e: api.ErrRange},
		{given: math.MinInt, used: math.MinInt, e: api.ErrRange},
		{given: math.MaxInt, used: math.MaxInt, e: api.ErrRange},
	} {
		var r api.Rights
		r.Given[7], r.Used[7] = c.given, c.used
		r.Moved[0][7], r.Moved[15][7] = c.in0, c.in15
		r.Moved[7][0], r.Moved[7][15] = c.out0, c.out15
		if got, e := rights.Free(r, 7); got != c.want || e != c.e {
			t.Errorf("%d: %d, %d; want %d, %d", i, got, e, c.want, c.e)
		}
	}
}

// P3.1: what a replica moved to itself comes and goes: it changes nothing but where a sum between may not be.
func TestFreeOfWhatWasMovedToItself(t *testing.T) {
	for k := range 16 {
		for _, c := range []struct {
			given, self, want int
			e                 api.Errno
		}{
			{5, 4, 5, api.OK}, {5, -4, 5, api.OK}, {0, most, 0, api.OK}, {1, most - 1, 1, api.OK},
			{1, most, 0, api.ErrRange}, {-1, -most, 0, api.ErrRange}, {0, most + 1, 0, api.ErrRange}, {0, math.MinInt, 0, api.ErrRange}, {0, math.MaxInt, 0, api.ErrRange},
		} {
			var r api.Rights
			r.Given[k], r.Moved[k][k] = c.given, c.self
			if got, e := rights.Free(r, k); got != c.want || e != c.e {
				t.Errorf("%d given, %d moved to itself, at %d: %d, %d", c.given, c.self, k, got, e)
			}
		}
	}
}

// P3.1: each edge at each place, for each replica.
func TestFreeOfEdges(t *testing.T) {
	for p := range places {
		for _, n := range edges() {
			for _, r := range []api.Rights{put(api.Rights{}, p, n), put(full(), p, n)} {
				for k := range 16 {
					want, we := free(r, k)
					if got, e := rights.Free(r, k); got != want || e != we {
						t.Fatalf("Free with %d at place %d, at %d: %d, %d; want %d, %d", n, p, k, got, e, want, we)
					}
				}
			}
		}
	}
}

// P3.1: an edge at each of two places that replica 3 has a part in.
func TestFreeOfPairsOfEdges(t *testing.T) {
	parts := []int{3, 16 + 3}
	for i := range 16 {
		parts = append(parts, 32+16*i+3, 32+16*3+i)
	}
	for _, p := range parts {
		for _, q := range parts {
			for _, n := range edges() {
				for _, m := range edges() {
					r := put(put(api.Rights{}, p, n), q, m)
					want, we := free(r, 3)
					if got, e := rights.Free(r, 3); got != want || e != we {
						t.Fatalf("Free with %d at place %d and %d at %d: %d, %d; want %d, %d", n, p, m, q, got, e, want, we)
					}
				}
			}
		}
	}
}

// P3.1
func TestFreeOfNoReplica(t *testing.T) {
	for _, k := range noReplicas() {
		for _, r := range some() {
			if got, e := rights.Free(r, k); got != 0 || e != api.ErrArg {
				t.Fatalf("Free at %d: %d, %d", k, got, e)
			}
		}
	}
}

// P3.1
func TestTotalOfKnownRights(t *testing.T) {
	for i, c := range []struct {
		given, used api.Vec
		want        int
		e           api.Errno
	}{
		{want: 0},
		{given: api.Vec{5, 15: 9}, used: api.Vec{3: 1, 15: 2}, want: 11},
		{used: api.Vec{4, 15: 5}, want: -9},
		{given: api.Vec{15: most}, want: most},
		{given: api.Vec{most}, used: api.Vec{15: most}, want: 0},
		{given: api.Vec{most, 15: 1}, used: api.Vec{1}, e: api.ErrRange},
		{given: api.Vec{most, -1, 1}, want: most},
		{given: api.Vec{most, 1, -1}, e: api.ErrRange},
		{used: api.Vec{most}, want: -most},
		{used: api.Vec{most, 15: 1}, e: api.ErrRange},
		{used: api.Vec{most, 1, -1}, e: api.ErrRange},
		{used: api.Vec{most, -1, 1}, want: -most},
		{given: api.Vec{most + 1}, used: api.Vec{1}, e: api.ErrRange},
		{used: api.Vec{15: math.MinInt}, e: api.ErrRange},
		{given: api.Vec{math.MaxInt, math.MinInt}, used: api.Vec{-1}, e: api.ErrRange},
	} {
		r := api.Rights{Given: c.given, Used: c.used}
		if got, e := rights.Total(r); got != c.want || e != c.e {
			t.Errorf("%d: %d, %d; want %d, %d", i, got, e, c.want, c.e)
		}
	}
}

// P3.1: each edge at each place; what was moved counts for nothing.
func TestTotalOfEdges(t *testing.T) {
	for p := range places {
		for _, n := range edges() {
			for _, r := range []api.Rights{put(api.Rights{}, p, n), put(full(), p, n), put(put(api.Rights{}, (p+1)%32, -1), p, n)} {
				want, we := total(r)
				if got, e := rights.Total(r); got != want || e != we {
					t.Fatalf("Total with %d at place %d: %d, %d; want %d, %d", n, p, got, e, want, we)
				}
			}
		}
	}
}

// P3.1
func TestJoinOfKnownRights(t *testing.T) {
	a, b := small(), small()
	a.Given[0], a.Used[15], a.Moved[0][1] = 8, 3, 5
	b.Given[0], b.Used[1], b.Moved[15][0], b.Moved[15][14] = 7, 1, 6, 1
	want := small()
	want.Given[0], want.Used[15], want.Used[1], want.Moved[0][1], want.Moved[15][0], want.Moved[15][14] = 8, 3, 1, 5, 6, 1
	if rights.Join(a, b) != want || rights.Join(b, a) != want {
		t.Error("Join:", rights.Join(a, b))
	}
}

// P3.1: each number for itself, at all pairs of edges, rights that may not be among them.
func TestJoinAndOverOfEdges(t *testing.T) {
	for p := range places {
		for _, n := range edges() {
			for _, m := range edges() {
				a, b := put(full(), p, n), put(full(), p, m)
				if got := rights.Join(a, b); got != put(full(), p, max(n, m)) {
					t.Fatalf("Join with %d and %d at place %d", n, m, p)
				}
				if got := rights.Over(a, b); got != (n >= m) {
					t.Fatalf("Over with %d and %d at place %d: %v", n, m, p, got)
				}
			}
		}
	}
}

// P3.1: two places, of which neither makes good for the other one.
func TestOverOfTwoPlaces(t *testing.T) {
	for p := range places {
		for q := range places {
			if p == q {
				continue
			}
			a, b := put(full(), p, most), put(full(), q, most)
			if rights.Over(a, b) || rights.Over(b, a) || !rights.Over(put(a, q, most), b) {
				t.Fatalf("Over of places %d and %d", p, q)
			}
		}
	}
}

// P3.2: what was given to replica k grows, and nothing else.
func TestGiveOfEdges(t *testing.T) {
	for k := range 16 {
		for _, given := range edges() {
			for _, n := range edges() {
				r := put(full(), k, given)
				want, we := grown(r, k, n)
				if n < 0 {
					want, we = api.Rights{}, api.ErrArg
				}
				if got, e := rights.Give(r, k, n); got != want || e != we {
					t.Fatalf("Give of %d to %d, that has %d: error %d, want %d", n, k, given, e, we)
				}
			}
		}
	}
	if r, e := rights.Give(small(), 15, 3); r != put(small(), 15, 12) || e != api.OK {
		t.Errorf("Give of 3 to 15: %v, %d", r.Given, e)
	}
}

// P3.2: what is not given is not asked about, be it as it may.
func TestGiveBesideWhatMayNotBe(t *testing.T) {
	for p := range places {
		for _, n := range edges() {
			if r := put(small(), p, n); p != 5 {
				if got, e := rights.Give(r, 5, 4); got != put(r, 5, 4) || e != api.OK {
					t.Fatalf("Give beside %d at place %d: %d", n, p, e)
				}
			}
		}
	}
}

// P3.2
func TestGiveAndUseOfNoReplica(t *testing.T) {
	for _, k := range noReplicas() {
		for _, n := range edges() {
			if got, e := rights.Give(full(), k, n); got != (api.Rights{}) || e != api.ErrArg {
				t.Errorf("Give of %d to %d: %d", n, k, e)
			}
			if got, e := rights.Use(full(), k, n); got != (api.Rights{}) || e != api.ErrArg {
				t.Errorf("Use of %d by %d: %d", n, k, e)
			}
		}
	}
}

// P3.2
func TestMoveOfNoReplicas(t *testing.T) {
	for _, n := range edges() {
		for _, i := range noReplicas() {
			for k := range 16 {
				if got, e := rights.Move(full(), i, k, n); got != (api.Rights{}) || e != api.ErrArg {
					t.Errorf("Move of %d from %d to %d: %d", n, i, k, e)
				}
				if got, e := rights.Move(full(), k, i, n); got != (api.Rights{}) || e != api.ErrArg {
					t.Errorf("Move of %d from %d to %d: %d", n, k, i, e)
				}
			}
			for _, k := range noReplicas() {
				if got, e := rights.Move(full(), i, k, n); got != (api.Rights{}) || e != api.ErrArg {
					t.Errorf("Move of %d from %d to %d: %d", n, i, k, e)
				}
			}
		}
		for i := range 16 {
			if got, e := rights.Move(full(), i, i, n); got != (api.Rights{}) || e != api.ErrArg {
				t.Errorf("Move of %d from %d to itself: %d", n, i, e)
			}
		}
	}
}

// amounts are the edges, and what lies about a number.
func amounts(n int) []int {
	return append(edges(), n-1, n, n+1)
}

// P3.2: just what is free, and one more; what the replica used grows, and nothing else.
func TestUseOfEachReplica(t *testing.T) {
	for _, r := range []api.Rights{{}, small(), full()} {
		for k := range 16 {
			have, _ := free(r, k)
			for _, n := range amounts(have) {
				want, we := spent(r, k, 16+k, n)
				if got, e := rights.Use(r, k, n); got != want || e != we {
					t.Fatalf("Use of %d by %d, that has %d: error %d, want %d", n, k, have, e, we)
				}
			}
		}
	}
	r, e := rights.Use(small(), 0, 6)
	if r != put(small(), 16, 6) || e != api.OK {
		t.Errorf("Use of all that is free at 0: %v, %d", r.Used, e)
	}
	if r, e = rights.Use(small(), 0, 7); r != (api.Rights{}) || e != api.ErrRights {
		t.Errorf("Use of one more than is free at 0: %v, %d", r.Used, e)
	}
}

// P3.2: just what is free, and one more; what i moved for k grows, and nothing else.
func TestMoveOfEachTwoReplicas(t *testing.T) {
	for _, r := range []api.Rights{{}, small(), full()} {
		for i := range 16 {
			have, _ := free(r, i)
			for k := range 16 {
				if i == k {
					continue
				}
				for _, n := range amounts(have) {
					want, we := spent(r, i, 32+16*i+k, n)
					if got, e := rights.Move(r, i, k, n); got != want || e != we {
						t.Fatalf("Move of %d from %d, that has %d, to %d: error %d, want %d", n, i, have, k, e, we)
					}
				}
			}
		}
	}
	r, e := rights.Move(small(), 0, 15, 6)
	if r != put(small(), 32+15, 6) || e != api.OK {
		t.Errorf("Move of all that is free at 0: %v, %d", r.Moved[0], e)
	}
	if r, e = rights.Move(small(), 0, 15, 7); r != (api.Rights{}) || e != api.ErrRights {
		t.Errorf("Move of one more than is free at 0: %v, %d", r.Moved[0], e)
	}
}

// P3.2: of rights that may not be the rule is the same: Free's error, then what is free, then what grows.
func TestUseAndMoveOfEdges(t *testing.T) {
	for p := range places {
		for _, number := range edges() {
			for _, r := range []api.Rights{put(small(), p, number), put(full(), p, number)} {
				for _, n := range []int{-1, 0, 1, 7, most} {
					for _, k := range []int{0, 15} {
						want, we := spent(r, k, 16+k, n)
						if got, e := rights.Use(r, k, n); got != want || e != we {
							t.Fatalf("Use of %d by %d with %d at place %d: error %d, want %d", n, k, number, p, e, we)
						}
						want, we = spent(r, k, 32+16*k+15-k, n)
						if got, e := rights.Move(r, k, 15-k, n); got != want || e != we {
							t.Fatalf("Move of %d from %d with %d at place %d: error %d, want %d", n, k, number, p, e, we)
						}
					}
				}
			}
		}
	}
}

// P3.2: the errors in their order, each with all that follow it.
func TestTheFirstErrorIsTold(t *testing.T) {
	beyond := put(api.Rights{}, 0, most+1)
	below := put(api.Rights{}, 16, 1)
	usedUp := put(put(put(api.Rights{}, 0, most), 16, most), 32+1, -5)
	movedUp := put(put(put(api.Rights{}, 0, most), 32+1, most), 32+2, -5)
	for _, c := range []struct {
		name string
		r    api.Rights
		k, n int
		e    api.Errno
	}{
		{"no amount, Free's error", beyond, 1, -1, api.ErrArg},
		{"no amount, none free", below, 1, -1, api.ErrArg},
		{"no amount, at the least int", below, 1, math.MinInt, api.ErrArg},
		{"Free's error, none free", beyond, 1, math.MaxInt, api.ErrRange},
		{"Free's error, of nothing", beyond, 1, 0, api.ErrRange},
		{"below 0, of nothing", below, 1, 0, api.ErrRights},
		{"none free, an amount that may not be", api.Rights{}, 1, most + 1, api.ErrRights},
		{"none free, the greatest int", api.Rights{}, 1, math.MaxInt, api.ErrRights},
	} {
		if got, e := rights.Use(c.r, 0, c.n); got != (api.Rights{}) || e != c.e {
			t.Errorf("Use, %s: %d", c.name, e)
		}
		if got, e := rights.Move(c.r, 0, c.k, c.n); got != (api.Rights{}) || e != c.e {
			t.Errorf("Move, %s: %d", c.name, e)
		}
	}
	for n, want := range []api.Errno{api.OK, api.ErrRange, api.ErrRange, api.ErrRange, api.ErrRange, api.ErrRange, api.ErrRights} {
		if got, e := rights.Use(usedUp, 0, n); e != want || (got == usedUp) != (n == 0) || n > 0 && got != (api.Rights{}) {
			t.Errorf("Use of %d above 2^40: %d, want %d", n, e, want)
		}
		if got, e := rights.Move(movedUp, 0, 1, n); e != want || (got == movedUp) != (n == 0) || n > 0 && got != (api.Rights{}) {
			t.Errorf("Move of %d above 2^40: %d, want %d", n, e, want)
		}
	}
}

// P3.2: what a replica moved is less at it, and more at the other one, and Total stays.
func TestMoveKeepsTheTotal(t *testing.T) {
	r, e := rights.Move(small(), 15, 4, 2)
	if e != api.OK {
		t.Fatal("Move:", e)
	}
	for k, want := range [16]int{0: 6, 1: 3, 4: 2, 15: 1} {
		if got, e := rights.Free(r, k); got != want || e != api.OK {
			t.Errorf("Free at %d: %d, %d", k, got, e)
		}
	}
	if got, e := rights.Total(r); got != 12 || e != api.OK {
		t.Errorf("Total: %d, %d", got, e)
	}
}

// The chapter's example: 5 given to 0; 3 moved to 1: free 2 and 3; 4 used by 1: ErrRights.
func TestTheExample(t *testing.T) {
	r, e := rights.Give(api.Rights{}, 0, 5)
	if r != (api.Rights{Given: api.Vec{5}}) || e != api.OK {
		t.Fatal("Give:", e)
	}
	r, e = rights.Move(r, 0, 1, 3)
	if r != (api.Rights{Given: api.Vec{5}, Moved: [16]api.Vec{{0, 3}}}) || e != api.OK {
		t.Fatal("Move:", e)
	}
	for k, want := range []int{2, 3, 0} {
		if got, e := rights.Free(r, k); got != want || e != api.OK {
			t.Errorf("Free at %d: %d, %d", k, got, e)
		}
	}
	if u, e := rights.Use(r, 1, 4); u != (api.Rights{}) || e != api.ErrRights {
		t.Error("Use of 4:", e)
	}
	if u, e := rights.Use(r, 1, 3); u != put(r, 17, 3) || e != api.OK {
		t.Error("Use of 3:", e)
	}
}

// Rules, 'Memory': what is handed in stays as it was.
func TestNothingHandedInIsChanged(t *testing.T) {
	a, b := full(), small()
	rights.Right(a)
	rights.Free(a, 3)
	rights.Total(a)
	rights.Join(a, b)
	rights.Over(a, b)
	rights.Give(a, 1, 5)
	rights.Use(a, 1, 5)
	rights.Move(a, 1, 2, 5)
	if a != full() || b != small() {
		t.Error("changed")
	}
}

// P3.3
func TestJoinHangsOnNoOrder(t *testing.T) {
	l := some()
	for _, a := range l {
		for _, b := range l {
			if rights.Join(a, b) != rights.Join(b, a) {
				t.Fatal("of two")
			}
		}
	}
	for i, a := range l {
		b, c := l[(i*7+3)%len(l)], l[(i*31+11)%len(l)]
		want := rights.Join(rights.Join(a, b), c)
		for _, o := range [][3]api.Rights{{a, c, b}, {b, a, c}, {b, c, a}, {c, a, b}, {c, b, a}} {
			if rights.Join(rights.Join(o[0], o[1]), o[2]) != want || rights.Join(o[0], rights.Join(o[1], o[2])) != want {
				t.Fatal("of three:", i)
			}
		}
	}
}

// P3.3: and what is joined is over both, and no other that is over both is below it.
func TestJoinHangsNotOnHowOften(t *testing.T) {
	l := some()
	for i, a := range l {
		if rights.Join(a, a) != a || !rights.Over(a, a) {
			t.Fatal("with itself:", i)
		}
		for _, b := range l {
			ab := rights.Join(a, b)
			if rights.Join(ab, b) != ab || rights.Join(a, ab) != ab || rights.Join(ab, ab) != ab {
				t.Fatal("once more")
			}
			if !rights.Over(ab, a) || !rights.Over(ab, b) || rights.Over(a, b) != (ab == a) {
				t.Fatal("not over both")
			}
		}
	}
}
