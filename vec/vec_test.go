package vec_test

import (
	"math"
	"math/big"
	"testing"

	"usufruct/api"
	"usufruct/vec"
)

const most = 1 << 40

// edges: ordinary numbers, both edges of what a vector may have and of what a number may be, one beyond each, and the outermost ints.
func edges() []int {
	return []int{0, 1, 7, -1, -7, most - 1, most, most + 1, 1 - most, -most, -most - 1, math.MaxInt - 1, math.MaxInt, math.MinInt, math.MinInt + 1}
}

// full has a number of its own for each replica.
func full() api.Vec {
	return api.Vec{1, 2, 3, 4, 5, 6, 7, 8, 9, 10, 11, 12, 13, 14, 15, 16}
}

// put is v with n for replica k.
func put(v api.Vec, k, n int) api.Vec {
	v[k] = n
	return v
}

// some: vectors of each sort; ones that may be, ones that may not, and each edge at the first, a middle and the last replica.
func some() []api.Vec {
	l := []api.Vec{{}, full(), {1, 5}, {3, 2}, {5, 1}, {15: 9}, {-3, 4, -5, 6}}
	for _, n := range edges() {
		l = append(l, put(full(), 0, n), put(full(), 8, n), put(api.Vec{}, 15, n))
		even := api.Vec{}
		for k := range even {
			even[k] = n
		}
		l = append(l, even)
	}
	return l
}

// over is P2.1's rule, number by number.
func over(a, b api.Vec) bool {
	for k := range 16 {
		if a[k] < b[k] {
			return false
		}
	}
	return true
}

// P2.1
func TestRight(t *testing.T) {
	for _, v := range []api.Vec{{}, {0, 5}, full(), {1, 5, 0, 15: 2}} {
		if !vec.Right(v) {
			t.Error("may be:", v)
		}
	}
	for k := range 16 {
		for _, n := range edges() {
			want := n >= 0 && n <= 1099511627776
			if got := vec.Right(put(api.Vec{}, k, n)); got != want {
				t.Errorf("Right with %d at %d: %v", n, k, got)
			}
			if got := vec.Right(put(full(), k, n)); got != want {
				t.Errorf("Right of a full one with %d at %d: %v", n, k, got)
			}
		}
	}
	even := api.Vec{}
	for k := range even {
		even[k] = most
	}
	if !vec.Right(even) {
		t.Error("each number may be 2^40, whatever their sum")
	}
}

// P2.1
func TestJoinOfKnownVectors(t *testing.T) {
	for _, c := range []struct{ a, b, want api.Vec }{
		{api.Vec{}, api.Vec{}, api.Vec{}},
		{api.Vec{1, 5}, api.Vec{3, 2}, api.Vec{3, 5}},
		{full(), api.Vec{}, full()},
		{full(), full(), full()},
		{api.Vec{1, 5, 0, 15: 2}, api.Vec{0, 6, 4, 15: 1}, api.Vec{1, 6, 4, 15: 2}},
		{api.Vec{most, most - 1}, api.Vec{most - 1, most}, api.Vec{most, most}},
		{api.Vec{-4, -9}, api.Vec{-5, -8}, api.Vec{-4, -8}},
		{api.Vec{math.MaxInt, math.MinInt, most + 1}, api.Vec{math.MinInt, math.MaxInt, most}, api.Vec{math.MaxInt, math.MaxInt, most + 1}},
		{api.Vec{math.MinInt}, api.Vec{math.MinInt}, api.Vec{math.MinInt}},
	} {
		if got := vec.Join(c.a, c.b); got != c.want {
			t.Errorf("Join(%v, %v): %v", c.a, c.b, got)
		}
		if got := vec.Join(c.b, c.a); got != c.want {
			t.Errorf("Join(%v, %v): %v", c.b, c.a, got)
		}
	}
}

// P2.1: each replica's number for itself, at all pairs of edges.
func TestJoinOfEdges(t *testing.T) {
	for k := range 16 {
		for _, n := range edges() {
			for _, m := range edges() {
				want := n
				if m > n {
					want = m
				}
				if got := vec.Join(put(full(), k, n), put(full(), k, m)); got != put(full(), k, want) {
					t.Errorf("Join with %d and %d at %d: %v", n, m, k, got)
				}
			}
		}
	}
}

// P2.1
func TestOverOfKnownVectors(t *testing.T) {
	for _, c := range []struct {
		a, b api.Vec
		want bool
	}{
		{api.Vec{}, api.Vec{}, true},
		{full(), full(), true},
		{full(), api.Vec{}, true},
		{api.Vec{}, full(), false},
		{api.Vec{1, 5}, api.Vec{3, 2}, false},
		{api.Vec{3, 2}, api.Vec{1, 5}, false},
		{api.Vec{3, 5}, api.Vec{3, 2}, true},
		{api.Vec{most}, api.Vec{most - 1}, true},
		{api.Vec{most - 1}, api.Vec{most}, false},
		{api.Vec{}, api.Vec{15: -1}, true},
		{api.Vec{15: -1}, api.Vec{}, false},
		{api.Vec{math.MaxInt}, api.Vec{math.MinInt}, true},
		{api.Vec{math.MinInt}, api.Vec{math.MaxInt}, false},
		{api.Vec{math.MinInt}, api.Vec{1}, false},
	} {
		if got := vec.Over(c.a, c.b); got != c.want {
			t.Errorf("Over(%v, %v): %v", c.a, c.b, got)
		}
	}
}

// P2.1: one replica's number alone decides, whichever it is.
func TestOverOfEdges(t *testing.T) {
	for k := range 16 {
		for _, n := range edges() {
			for _, m := range edges() {
				if got := vec.Over(put(full(), k, n), put(full(), k, m)); got != (n >= m) {
					t.Errorf("Over with %d and %d at %d: %v", n, m, k, got)
				}
			}
		}
	}
}

// P2.1
func TestSumOfKnownVectors(t *testing.T) {
	for _, c := range []struct {
		v    api.Vec
		want int
		e    api.Errno
	}{
		{api.Vec{}, 0, api.OK},
		{full(), 136, api.OK},
		{api.Vec{1, 5, 0, 15: 2}, 8, api.OK},
		{api.Vec{15: most}, most, api.OK},
		{api.Vec{15: -most}, -most, api.OK},
		{api.Vec{most - 1, 15: 1}, most, api.OK},
		{api.Vec{most, 15: 1}, 0, api.ErrRange},
		{api.Vec{1, 15: most}, 0, api.ErrRange},
		{api.Vec{-4, 9, -7}, -2, api.OK},
		{api.Vec{most, -1, 1}, most, api.OK},
		{api.Vec{most, 1, -1}, 0, api.ErrRange},
		{api.Vec{-most, -1, 1}, 0, api.ErrRange},
		{api.Vec{most + 1, -1}, 0, api.ErrRange},
		{api.Vec{-1, 15: most + 1}, 0, api.ErrRange},
		{api.Vec{1, 15: -most - 1}, 0, api.ErrRange},
		{api.Vec{math.MaxInt, math.MinInt, 1}, 0, api.ErrRange},
		{api.Vec{math.MinInt, math.MinInt}, 0, api.ErrRange},
	} {
		if got, e := vec.Sum(c.v); got != c.want || e != c.e {
			t.Errorf("Sum(%v): %d, %d; want %d, %d", c.v, got, e, c.want, c.e)
		}
	}
}

// sum is num.Sum's rule in numbers that have no end.
func sum(v api.Vec) (int, api.Errno) {
	limit, all := big.NewInt(most), new(big.Int)
	for _, n := range v {
		x := big.NewInt(int64(n))
		if x.CmpAbs(limit) > 0 || all.Add(all, x).CmpAbs(limit) > 0 {
			return 0, api.ErrRange
		}
	}
	return int(all.Int64()), api.OK
}

// P2.1
func TestSumOfEdges(t *testing.T) {
	for k := range 16 {
		for _, n := range edges() {
			for _, v := range []api.Vec{put(api.Vec{}, k, n), put(full(), k, n), put(put(api.Vec{}, 15-k, -1), k, n)} {
				want, we := sum(v)
				if got, e := vec.Sum(v); got != want || e != we {
					t.Errorf("Sum(%v): %d, %d; want %d, %d", v, got, e, want, we)
				}
			}
		}
	}
}

// P2.1: replica k's number grows, and no other one.
func TestGrowOfEachReplica(t *testing.T) {
	for k := range 16 {
		for _, n := range []int{0, 1, 100, most - 1 - k} {
			if got, e := vec.Grow(full(), k, n); got != put(full(), k, k+1+n) || e != api.OK {
				t.Errorf("Grow at %d by %d: %v, %d", k, n, got, e)
			}
		}
		if got, e := vec.Grow(full(), k, most-k); got != (api.Vec{}) || e != api.ErrRange {
			t.Errorf("Grow at %d to one beyond: %v, %d", k, got, e)
		}
	}
}

// P2.1
func TestGrowOfNoReplica(t *testing.T) {
	for _, k := range []int{-1, 16, -16, 17, 255, 1 << 32, -1 << 32, math.MaxInt, math.MinInt} {
		for _, n := range edges() {
			if got, e := vec.Grow(full(), k, n); got != (api.Vec{}) || e != api.ErrArg {
				t.Errorf("Grow at %d by %d: %v, %d", k, n, got, e)
			}
		}
	}
}

// grow is P2.1's rule for the number that grows, in numbers that have no end.
func grow(number, n int) (int, api.Errno) {
	limit, x, y := big.NewInt(most), big.NewInt(int64(number)), big.NewInt(int64(n))
	if n < 0 {
		return 0, api.ErrArg
	}
	z := new(big.Int).Add(x, y)
	if z.Cmp(limit) > 0 || x.CmpAbs(limit) > 0 || y.CmpAbs(limit) > 0 {
		return 0, api.ErrRange
	}
	return int(z.Int64()), api.OK
}

// P2.1: all pairs of edges, at the outermost replicas and one between.
func TestGrowOfEdges(t *testing.T) {
	for _, k := range []int{0, 7, 15} {
		for _, number := range edges() {
			for _, n := range edges() {
				sum, we := grow(number, n)
				want := api.Vec{}
				if we == api.OK {
					want = put(full(), k, sum)
				}
				if got, e := vec.Grow(put(full(), k, number), k, n); got != want || e != we {
					t.Errorf("Grow of %d at %d by %d: %v, %d; want %v, %d", number, k, n, got, e, want, we)
				}
			}
		}
	}
}

// P2.1: the words name ErrArg first.
func TestGrowTellsTheFirstError(t *testing.T) {
	for _, c := range []struct{ number, k, n int }{
		{most, 0, -1}, {most + 1, 0, -1}, {math.MaxInt, 0, math.MinInt}, {0, 0, -most - 1}, {most, 16, 1}, {0, 16, most + 1}, {0, -1, math.MaxInt},
	} {
		if got, e := vec.Grow(api.Vec{c.number}, c.k, c.n); got != (api.Vec{}) || e != api.ErrArg {
			t.Errorf("Grow of %d at %d by %d: %v, %d", c.number, c.k, c.n, got, e)
		}
	}
}

// P2.1: what the other replicas have is not asked about, and stays.
func TestGrowLeavesTheOthers(t *testing.T) {
	for _, n := range edges() {
		v := api.Vec{n, 4, 15: n}
		if got, e := vec.Grow(v, 1, 3); got != (api.Vec{n, 7, 15: n}) || e != api.OK {
			t.Errorf("Grow beside %d: %v, %d", n, got, e)
		}
	}
}

// Rules, 'Memory': what is handed in stays as it was.
func TestNothingHandedInIsChanged(t *testing.T) {
	a, b := api.Vec{1, 5}, api.Vec{3, 2}
	vec.Join(a, b)
	vec.Over(a, b)
	vec.Right(a)
	vec.Sum(a)
	grown, _ := vec.Grow(a, 0, 9)
	if a != (api.Vec{1, 5}) || b != (api.Vec{3, 2}) || grown != (api.Vec{10, 5}) {
		t.Error("changed:", a, b, grown)
	}
}

// P2.2
func TestJoinHangsOnNoOrder(t *testing.T) {
	l := some()
	for _, a := range l {
		for _, b := range l {
			ab := vec.Join(a, b)
			if ab != vec.Join(b, a) {
				t.Fatalf("of two: %v, %v", a, b)
			}
			for _, c := range l {
				if vec.Join(ab, c) != vec.Join(a, vec.Join(b, c)) {
					t.Fatalf("of three: %v, %v, %v", a, b, c)
				}
			}
		}
	}
}

// P2.2
func TestJoinHangsNotOnHowOften(t *testing.T) {
	for _, a := range some() {
		if vec.Join(a, a) != a {
			t.Fatal("with itself:", a)
		}
		for _, b := range some() {
			ab := vec.Join(a, b)
			if vec.Join(ab, b) != ab || vec.Join(a, ab) != ab || vec.Join(ab, ab) != ab {
				t.Fatalf("once more: %v, %v", a, b)
			}
		}
	}
}

// P2.2: over both, and with any one number less no more so.
func TestJoinedIsTheLeastOverBoth(t *testing.T) {
	for _, a := range some() {
		for _, b := range some() {
			ab := vec.Join(a, b)
			if !vec.Over(ab, a) || !vec.Over(ab, b) || !over(ab, a) || !over(ab, b) {
				t.Fatalf("not over both: %v, %v", a, b)
			}
			for k, n := range ab {
				if n == math.MinInt {
					continue
				}
				less := put(ab, k, n-1)
				if vec.Over(less, a) && vec.Over(less, b) {
					t.Fatalf("less would do at %d: %v, %v", k, a, b)
				}
			}
			for _, c := range some() {
				if vec.Over(c, a) && vec.Over(c, b) && !vec.Over(c, ab) {
					t.Fatalf("over both, and not over what is joined: %v", c)
				}
			}
		}
	}
}

// P2.2
func TestWhatGrewIsOverWhatItWas(t *testing.T) {
	grew := 0
	for _, v := range some() {
		for k := range 16 {
			for _, n := range []int{0, 1, 5, most / 2, most} {
				got, e := vec.Grow(v, k, n)
				if e != api.OK {
					continue
				}
				grew++
				if !vec.Over(got, v) || !over(got, v) || vec.Join(got, v) != got || vec.Over(v, got) != (n == 0) {
					t.Fatalf("Grow of %v at %d by %d: %v", v, k, n, got)
				}
			}
		}
	}
	if grew == 0 {
		t.Error("nothing grew")
	}
}

// P2.2: of what may be, what is joined and what grew may be.
func TestWhatMayBeStaysSo(t *testing.T) {
	for _, a := range some() {
		if !vec.Right(a) {
			continue
		}
		for _, b := range some() {
			if vec.Right(b) && !vec.Right(vec.Join(a, b)) {
				t.Fatalf("joined: %v, %v", a, b)
			}
		}
		for _, n := range edges() {
			if got, _ := vec.Grow(a, 8, n); !vec.Right(got) {
				t.Fatalf("grew by %d: %v", n, a)
			}
		}
	}
}
