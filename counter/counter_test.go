package counter_test

import (
	"math"
	"testing"

	"usufruct/api"
	"usufruct/counter"
	"usufruct/rights"
)

const most = 1 << 40

// of is how many numbers rights have (16 given, 16 used, 16 times 16 moved); places is how many a counter has: three, and two rights.
const (
	of     = 16 + 16 + 16*16
	places = 3 + 2*of
)

// Places of a counter's numbers: each is followed by those of the other replicas.
const (
	downGiven = 3
	downUsed  = downGiven + 16
	downMoved = downUsed + 16
	upGiven   = downGiven + of
	upUsed    = upGiven + 16
	upMoved   = upUsed + 16
)

// edges: ordinary numbers, both edges of what a vector may have and of what a number may be, one beyond each, and the outermost ints.
func edges() []int {
	return []int{0, 1, 7, -1, -7, most - 1, most, most + 1, 1 - most, -most, -most - 1, math.MaxInt - 1, math.MaxInt, math.MinInt, math.MinInt + 1}
}

// noReplicas are numbers that no replica has.
func noReplicas() []int {
	return []int{-1, 16, -16, 17, 255, 1 << 32, -1 << 32, math.MaxInt, math.MinInt}
}

// at is number p of all that a counter has.
func at(c *api.Counter, p int) *int {
	if p < downGiven {
		return []*int{&c.Init, &c.Low, &c.High}[p]
	}
	if p < upGiven {
		return atRights(&c.Down, p-downGiven)
	}
	return atRights(&c.Up, p-upGiven)
}

func atRights(r *api.Rights, p int) *int {
	if p < 16 {
		return &r.Given[p]
	}
	if p < 32 {
		return &r.Used[p-16]
	}
	return &r.Moved[(p-32)/16][p%16]
}

// put is c with numbers at places: a place, then its number, and so on.
func put(c api.Counter, l ...int) api.Counter {
	for i := 0; i < len(l); i += 2 {
		*at(&c, l[i]) = l[i+1]
	}
	return c
}

// plus is c with one number greater by n.
func plus(c api.Counter, p, n int) api.Counter {
	*at(&c, p) += n
	return c
}

// small: 5, from 0 to 12; replica 1 has heard of all: it got 2 down and 3 up, and went up by 1; 15 got 2 up; 0 went down by 1: value 5; free of Down 2, 3 and 0, of Up 3, 2 and 2.
func small() api.Counter {
	return put(api.Counter{}, 0, 5, 2, 12,
		downGiven, 5, downGiven+1, 1, downUsed, 1, downMoved+1, 2,
		upGiven, 8, upUsed+1, 1, upMoved+1, 3, upMoved+15, 2)
}

// full may be, has a number of its own at each place where one may, and much that is free at each replica.
func full() api.Counter {
	c := api.Counter{Init: -2000, Low: -2000000, High: 1000000}
	for p := downGiven; p < places; p++ {
		if !toItself(p) {
			*at(&c, p) = p
		}
	}
	for k := range 16 {
		c.Down.Given[k] += 100000
		c.Up.Given[k] += 30000
	}
	c.Down.Given[15] += 1998000 + sum(c.Up.Used) - sum(c.Down.Given)
	c.Up.Given[15] += 1002000 + sum(c.Down.Used) - sum(c.Up.Given)
	return c
}

// toItself tells whether place p is what a replica moved to itself.
func toItself(p int) bool {
	return p >= downMoved && p < upGiven && (p-downMoved)/16 == (p-downMoved)%16 ||
		p >= upMoved && (p-upMoved)/16 == (p-upMoved)%16
}

func sum(v api.Vec) int {
	n := 0
	for _, m := range v {
		n += m
	}
	return n
}

// valueOf is P4.1's rule of Value: an int has room for each sum, as the first one that may not be ends it.
func valueOf(c api.Counter) (int, api.Errno) {
	l := append([]int{c.Init}, c.Up.Used[:]...)
	for _, n := range c.Down.Used {
		l = append(l, -n)
	}
	all := 0
	for _, n := range l {
		if all += n; n > most || n < -most || all > most || all < -most {
			return 0, api.ErrRange
		}
	}
	return all, api.OK
}

// mayBe is the rule of the section 'Words', of numbers that have no end.
func mayBe(c api.Counter) bool {
	for p := range places {
		if n := *at(&c, p); n > most || n < -most || p >= downGiven && n < 0 || toItself(p) && n != 0 {
			return false
		}
	}
	// All that is added is at most 2^40 now, and an int has room for all of it.
	down := sum(c.Down.Given) == c.Init-c.Low+sum(c.Up.Used)
	up := sum(c.Up.Given) == c.High-c.Init+sum(c.Down.Used)
	return down && up && c.Low <= c.Init && c.Init <= c.High && sum(c.Down.Given) <= most && sum(c.Up.Given) <= most
}

// some: counters of each sort; ones that may be, ones that may not, and each edge at some places.
func some() []api.Counter {
	l := []api.Counter{{}, small(), full()}
	for _, n := range edges() {
		for _, p := range []int{0, 1, 2, downGiven, downGiven + 15, downUsed, downUsed + 15, downMoved + 1, upGiven - 2, upGiven, upUsed + 1, upUsed + 15, upMoved + 16, places - 1} {
			l = append(l, put(small(), p, n))
		}
	}
	return l
}

// P4.1: all is replica 0's.
func TestNewOfKnownNumbers(t *testing.T) {
	for _, l := range [][3]int{
		{5, 0, 10}, {0, 0, 0}, {7, 7, 7}, {-7, -7, -7}, {3, 3, 9}, {9, 3, 9}, {-3, -9, 4}, {0, 0, 1}, {1, 0, 1},
		{most, most, most}, {-most, -most, -most}, {0, 0, most}, {most, 0, most}, {-most, -most, 0}, {0, -most, 0}, {7, 0, most},
		{most, most - 1, most}, {-most, -most, 1 - most}, {0, -most / 2, most / 2}, {1, 1 - most, 1}, {-1, -1, most - 1},
	} {
		want := api.Counter{Init: l[0], Low: l[1], High: l[2]}
		want.Down.Given[0], want.Up.Given[0] = l[0]-l[1], l[2]-l[0]
		got, e := counter.New(l[0], l[1], l[2])
		if got != want || e != api.OK {
			t.Errorf("New%v: %d", l, e)
		}
		if n, e := counter.Value(got); n != l[0] || e != api.OK || !counter.Right(got) {
			t.Errorf("New%v: value %d, %d", l, n, e)
		}
	}
}

// P4.1: one beyond, and what wraps round.
func TestNewOfNumbersThatMayNotBe(t *testing.T) {
	for _, l := range [][3]int{
		{5, 6, 10}, {11, 0, 10}, {5, 10, 0}, {0, 1, 0}, {0, 0, -1}, {-1, 0, 0}, {1, 0, 0}, {8, 7, 7}, {6, 7, 7},
		{most + 1, 0, most + 1}, {most, 0, most + 1}, {0, 0, most + 1}, {-most - 1, -most - 1, 0}, {0, -most - 1, 0}, {most + 1, most + 1, most + 1}, {most + 1, most, most}, {-most - 1, -most, -most}, {-most - 1, -most - 1, -most - 1},
		{0, -1, most}, {0, -most, 1}, {0, -most, most}, {most, -1, most}, {-most, -most, most}, {0, -most/2 - 1, most / 2}, {0, -most / 2, most/2 + 1},
		{0, math.MinInt, math.MaxInt}, {math.MaxInt, 0, math.MaxInt}, {math.MinInt, math.MinInt, 0}, {math.MinInt, math.MinInt, math.MinInt}, {math.MaxInt, math.MaxInt, math.MaxInt}, {0, 0, math.MaxInt}, {0, math.MinInt, 0}, {0, math.MaxInt, math.MinInt}, {math.MinInt, 0, 1}, {math.MaxInt, 0, 1},
	} {
		if got, e := counter.New(l[0], l[1], l[2]); got != (api.Counter{}) || e != api.ErrRange {
			t.Errorf("New%v: %d", l, e)
		}
	}
}

// P4.1: three edges at once, and what lies about each.
func TestNewOfEdges(t *testing.T) {
	is := func(n int) bool { return n >= -most && n <= most }
	for _, low := range edges() {
		for _, high := range append(edges(), low-1, low, low+1, low+most, low+most+1) {
			for _, init := range append(edges(), low-1, low, low+1, high-1, high, high+1) {
				want, we := api.Counter{}, api.ErrRange
				if is(low) && is(init) && is(high) && low <= init && init <= high && high-low <= most {
					want, we = put(want, 0, init, 1, low, 2, high, downGiven, init-low, upGiven, high-init), api.OK
				}
				if got, e := counter.New(init, low, high); got != want || e != we {
					t.Fatalf("New(%d, %d, %d): %d, want %d", init, low, high, e, we)
				}
			}
		}
	}
}

// P4.1
func TestRightOfCountersThatMayBe(t *testing.T) {
	wide := put(api.Counter{}, 1, -most, 2, most, downGiven, most, upGiven+15, most)
	split := put(api.Counter{}, 0, 3, 2, 7, downGiven+4, 1, downGiven+15, 2, upGiven, 3, upGiven+9, 1)
	turned := put(split, upUsed+6, 5, downGiven+2, 5, downUsed+15, 3, upGiven+3, 3)
	low := put(api.Counter{}, 0, most, 1, most, 2, most, upUsed+3, most, downGiven, most)
	high := put(api.Counter{}, 0, -most, 1, -most, 2, -most, downUsed+3, most, upGiven, most)
	for i, c := range []api.Counter{{}, small(), full(), wide, split, turned, low, high, put(split, downMoved+5, most, upMoved+16, most)} {
		if !counter.Right(c) || !mayBe(c) {
			t.Error("may be:", i)
		}
	}
}

// P4.1: what was given must be just that, and sums that may be; of two faults one is enough.
func TestRightOfCountersThatMayNotBe(t *testing.T) {
	two := put(api.Counter{}, 0, 1, 2, most)
	for i, c := range []api.Counter{
		plus(small(), 0, 1), plus(small(), 1, -1), plus(small(), 2, 1), plus(small(), 2, -1),
		plus(small(), downGiven, 1), plus(small(), upGiven+15, 1), plus(small(), downUsed, 1), plus(small(), upUsed+15, 1),
		plus(plus(small(), downUsed, 1), downGiven, -1), plus(plus(small(), downUsed, 1), downGiven, 1), plus(plus(small(), upUsed, 1), upGiven, 1),
		put(small(), downMoved, 1), put(small(), upMoved+17, 1), put(small(), places-1, 2),
		put(api.Counter{}, 0, 5, 1, 6, 2, 7, upGiven, 2),
		put(api.Counter{}, 0, 5, 1, 6, 2, 7, upGiven, 2, upUsed, 1),
		put(api.Counter{}, 0, 5, 2, 4, downGiven, 5),
		put(api.Counter{}, 0, 5, 2, 4, downGiven, 5, downUsed, 1),
		put(two, downGiven, 1, downGiven+1, most, upGiven, most-1, upUsed, most),
		put(two, downGiven, 1, upGiven, most-1, upGiven+1, 2, downUsed, 2),
		put(api.Counter{}, 0, most, 1, -most, 2, most, downGiven, most, downGiven+1, most),
		put(api.Counter{}, 0, -most, 1, -most, 2, most, upGiven, most, upGiven+1, most),
		put(api.Counter{}, 0, most, 1, -most, 2, most),
		put(api.Counter{}, 0, -most, 1, -most, 2, most),
		put(api.Counter{}, downGiven, most, downGiven+1, 1, upUsed, most, upUsed+1, 1),
		put(api.Counter{}, upGiven, most, upGiven+1, 1, downUsed, most, downUsed+1, 1),
		put(api.Counter{}, downGiven, most, downGiven+1, 1),
		put(api.Counter{}, upUsed, most, upUsed+1, 1),
		put(api.Counter{}, 0, most+1, 1, most+1, 2, most+1),
		put(api.Counter{}, 0, -most-1, 1, -most-1, 2, -most-1),
		put(api.Counter{}, 1, -most-1, downGiven, most, downGiven+1, 1),
		put(api.Counter{}, 0, math.MaxInt, 1, math.MinInt, 2, math.MaxInt, downGiven, 0),
		put(api.Counter{}, 0, math.MinInt, 1, math.MinInt, 2, math.MinInt),
		put(api.Counter{}, 0, math.MaxInt, 1, math.MaxInt, 2, math.MaxInt),
		put(small(), downGiven, 7, downGiven+1, -1), put(small(), upGiven, 9, upGiven+1, -1),
		put(api.Counter{}, upUsed, 1, upUsed+1, -1), put(api.Counter{}, downUsed, 1, downUsed+15, -1),
		put(api.Counter{}, downMoved+1, -1), put(api.Counter{}, upMoved+1, most+1),
		put(api.Counter{}, downGiven, math.MaxInt, downGiven+1, math.MinInt, downGiven+2, 1),
	} {
		if counter.Right(c) || mayBe(c) {
			t.Error("may not be:", i)
		}
	}
}

// P4.1: one number alone, at each place; then with one that makes good for it.
func TestRightOfEdges(t *testing.T) {
	partners := []int{0, 1, 2, downGiven + 15, downUsed + 15, upGiven + 15, upUsed + 15}
	for _, c := range []api.Counter{{}, small(), full()} {
		for p := range places {
			for _, n := range edges() {
				d := put(c, p, n)
				if got, want := counter.Right(d), mayBe(d); got != want {
					t.Fatalf("Right with %d at place %d: %v", n, p, got)
				}
				for _, q := range partners {
					for _, m := range []int{n - *at(&c, p), *at(&c, p) - n} {
						f := plus(d, q, m)
						if got, want := counter.Right(f), mayBe(f); got != want {
							t.Fatalf("Right with %d at place %d, and %d more at %d: %v", n, p, m, q, got)
						}
					}
				}
			}
		}
	}
}

// P4.1
func TestValueOfKnownCounters(t *testing.T) {
	for i, c := range []struct {
		l    []int
		want int
		e    api.Errno
	}{
		{nil, 0, api.OK},
		{[]int{0, 5, 1, 2, 2, 9}, 5, api.OK},
		{[]int{0, -5, upUsed, 3, upUsed + 15, 4, downUsed, 1, downUsed + 15, 7}, -6, api.OK},
		{[]int{0, most}, most, api.OK},
		{[]int{0, -most}, -most, api.OK},
		{[]int{0, most + 1}, 0, api.ErrRange},
		{[]int{0, -most - 1}, 0, api.ErrRange},
		{[]int{0, most + 1, downUsed, 1}, 0, api.ErrRange},
		{[]int{0, most, upUsed, 1, downUsed, 1}, 0, api.ErrRange},
		{[]int{0, most, upUsed, -1, upUsed + 15, 1}, most, api.OK},
		{[]int{0, most, upUsed, 1, upUsed + 1, -1}, 0, api.ErrRange},
		{[]int{0, -most, downUsed, 1, upUsed + 15, 1}, -most, api.OK},
		{[]int{0, -most, downUsed + 15, 1}, 0, api.ErrRange},
		{[]int{0, -most, downUsed, -1, downUsed + 15, 1}, -most, api.OK},
		{[]int{0, -most, downUsed, 1, downUsed + 1, -1}, 0, api.ErrRange},
		{[]int{upUsed, most, downUsed + 15, most}, 0, api.OK},
		{[]int{upUsed, most, downUsed + 14, most, downUsed + 15, most}, -most, api.OK},
		{[]int{downUsed, math.MinInt}, 0, api.ErrRange},
		{[]int{downUsed, math.MinInt, downUsed + 1, math.MinInt}, 0, api.ErrRange},
		{[]int{upUsed, math.MaxInt, upUsed + 1, math.MinInt, upUsed + 2, 1}, 0, api.ErrRange},
		{[]int{0, math.MinInt, downUsed, math.MinInt}, 0, api.ErrRange},
		{[]int{0, 4, downGiven, 3, upGiven, 3, downMoved + 1, 2, upMoved + 1, 1}, 4, api.OK},
	} {
		if got, e := counter.Value(put(api.Counter{}, c.l...)); got != c.want || e != c.e {
			t.Errorf("%d: %d, %d; want %d, %d", i, got, e, c.want, c.e)
		}
	}
}

// P4.1: each edge at each place, and pairs of them where the value is made.
func TestValueOfEdges(t *testing.T) {
	check := func(c api.Counter, l ...int) {
		want, we := valueOf(put(c, l...))
		if got, e := counter.Value(put(c, l...)); got != want || e != we {
			t.Fatalf("Value with %v: %d, %d; want %d, %d", l, got, e, want, we)
		}
	}
	parts := []int{0}
	for k := range 16 {
		parts = append(parts, upUsed+k, downUsed+k)
	}
	for _, n := range edges() {
		for p := range places {
			check(api.Counter{}, p, n)
			check(full(), p, n)
		}
		for _, p := range parts {
			for _, q := range parts {
				for _, m := range edges() {
					check(api.Counter{}, p, n, q, m)
				}
			}
		}
	}
}

// P4.1: Down first, then Up.
func TestRoomOfKnownCounters(t *testing.T) {
	want := map[int][2]int{0: {2, 3}, 1: {3, 2}, 15: {0, 2}}
	for k := range 16 {
		if down, up := counter.Room(small(), k); [2]int{down, up} != want[k] {
			t.Errorf("Room at %d: %d, %d", k, down, up)
		}
		below := put(api.Counter{}, downUsed+k, 3, upMoved+16*k+(k+1)%16, most)
		if down, up := counter.Room(below, k); down != -3 || up != -most {
			t.Errorf("Room at %d: %d, %d", k, down, up)
		}
	}
}

// P4.1: where one can't be told the other one still is.
func TestRoomThatCannotBeTold(t *testing.T) {
	c := put(small(), downGiven, most+1)
	if down, up := counter.Room(c, 0); down != 0 || up != 3 {
		t.Errorf("Down can't be told: %d, %d", down, up)
	}
	c = put(small(), upGiven, math.MinInt)
	if down, up := counter.Room(c, 0); down != 2 || up != 0 {
		t.Errorf("Up can't be told: %d, %d", down, up)
	}
	c = put(c, downUsed, math.MinInt)
	if down, up := counter.Room(c, 0); down != 0 || up != 0 {
		t.Errorf("neither can be told: %d, %d", down, up)
	}
	for _, k := range noReplicas() {
		for _, c := range some() {
			if down, up := counter.Room(c, k); down != 0 || up != 0 {
				t.Fatalf("Room at %d: %d, %d", k, down, up)
			}
		}
	}
}

// P4.1: each edge at each place.
func TestRoomOfEdges(t *testing.T) {
	for p := range places {
		for _, n := range edges() {
			c := put(full(), p, n)
			for _, k := range []int{0, p % 16, 15} {
				wantDown, _ := rights.Free(c.Down, k)
				wantUp, _ := rights.Free(c.Up, k)
				if down, up := counter.Room(c, k); down != wantDown || up != wantUp {
					t.Fatalf("Room with %d at place %d, at %d: %d, %d; want %d, %d", n, p, k, down, up, wantDown, wantUp)
				}
			}
		}
	}
}

// inc is P4.2's rule of Inc.
func inc(c api.Counter, k, n int) (api.Counter, api.Errno) {
	up, e := rights.Use(c.Up, k, n)
	if e != api.OK {
		return api.Counter{}, e
	}
	down, e := rights.Give(c.Down, k, n)
	if e != api.OK {
		return api.Counter{}, e
	}
	return api.Counter{Init: c.Init, Low: c.Low, High: c.High, Down: down, Up: up}, api.OK
}

// dec is P4.2's rule of Dec: that of Inc, seen in a mirror.
func dec(c api.Counter, k, n int) (api.Counter, api.Errno) {
	c.Down, c.Up = c.Up, c.Down
	c, e := inc(c, k, n)
	c.Down, c.Up = c.Up, c.Down
	return c, e
}

// hand is P4.2's rule of Hand.
func hand(c api.Counter, i, k, down, up int) (api.Counter, api.Errno) {
	d, e := rights.Move(c.Down, i, k, down)
	if e != api.OK {
		return api.Counter{}, e
	}
	u, e := rights.Move(c.Up, i, k, up)
	if e != api.OK {
		return api.Counter{}, e
	}
	return api.Counter{Init: c.Init, Low: c.Low, High: c.High, Down: d, Up: u}, api.OK
}

// P4.2: of each replica just what is free, and one more: what one uses of the one it has of the other.
func TestIncAndDecOfEachReplica(t *testing.T) {
	for _, c := range []api.Counter{small(), full()} {
		for k := range 16 {
			down, up := counter.Room(c, k)
			if got, e := counter.Inc(c, k, up); got != plus(plus(c, upUsed+k, up), downGiven+k, up) || e != api.OK {
				t.Errorf("Inc of all at %d: %d", k, e)
			}
			if got, e := counter.Inc(c, k, up+1); got != (api.Counter{}) || e != api.ErrRights {
				t.Errorf("Inc of one more at %d: %d", k, e)
			}
			if got, e := counter.Dec(c, k, down); got != plus(plus(c, downUsed+k, down), upGiven+k, down) || e != api.OK {
				t.Errorf("Dec of all at %d: %d", k, e)
			}
			if got, e := counter.Dec(c, k, down+1); got != (api.Counter{}) || e != api.ErrRights {
				t.Errorf("Dec of one more at %d: %d", k, e)
			}
		}
	}
}

// P4.2: the value goes up and down by just that, and the rights with it.
func TestIncAndDecChangeTheValue(t *testing.T) {
	c, e := counter.Inc(small(), 15, 2)
	n, f := counter.Value(c)
	if down, up := counter.Room(c, 15); e != api.OK || f != api.OK || n != 7 || down != 2 || up != 0 || !counter.Right(c) {
		t.Errorf("Inc: %d, %d, value %d, room %d, %d", e, f, n, down, up)
	}
	c, e = counter.Dec(c, 1, 3)
	n, f = counter.Value(c)
	if down, up := counter.Room(c, 1); e != api.OK || f != api.OK || n != 4 || down != 0 || up != 5 || !counter.Right(c) {
		t.Errorf("Dec: %d, %d, value %d, room %d, %d", e, f, n, down, up)
	}
}

// P4.2: of each edge, and of no replicas.
func TestIncAndDecOfEdges(t *testing.T) {
	replicas := append(noReplicas(), 0, 1, 7, 15)
	for _, c := range some() {
		for _, k := range replicas {
			for _, n := range append(edges(), 2, 3) {
				want, we := inc(c, k, n)
				if got, e := counter.Inc(c, k, n); got != want || e != we {
					t.Fatalf("Inc by %d of %d: %d, want %d", k, n, e, we)
				}
				want, we = dec(c, k, n)
				if got, e := counter.Dec(c, k, n); got != want || e != we {
					t.Fatalf("Dec by %d of %d: %d, want %d", k, n, e, we)
				}
			}
		}
	}
}

// P4.2: the errors in their order, each with what follows it.
func TestTheFirstErrorOfIncAndDec(t *testing.T) {
	fullDown := put(small(), downGiven, most, downUsed, most)
	fullUp := put(small(), upGiven, most, upUsed, most)
	for _, c := range []struct {
		name string
		c    api.Counter
		k, n int
		inc  api.Errno
		dec  api.Errno
	}{
		{"no replica", fullDown, 16, 1, api.ErrArg, api.ErrArg},
		{"no replica", fullUp, -1, 1, api.ErrArg, api.ErrArg},
		{"no amount", put(fullDown, upGiven, most+1), 0, -1, api.ErrArg, api.ErrArg},
		{"too few, of what can't grow", fullDown, 0, 4, api.ErrRights, api.ErrRights},
		{"enough, of what can't grow", fullDown, 0, 3, api.ErrRange, api.ErrRights},
		{"too few, of what can't grow", fullUp, 0, 3, api.ErrRights, api.ErrRights},
		{"enough, of what can't grow", fullUp, 0, 2, api.ErrRights, api.ErrRange},
		{"Up can't be told", put(small(), upGiven, most+1), 0, 1, api.ErrRange, api.ErrRange},
		{"Up can't be told, too few of Down", put(small(), upGiven, most+1), 0, 3, api.ErrRange, api.ErrRights},
		{"Down can't be told, too few of Up", put(small(), downGiven, most+1), 0, 4, api.ErrRights, api.ErrRange},
		{"the greatest int", small(), 0, math.MaxInt, api.ErrRights, api.ErrRights},
		{"the least int", small(), 0, math.MinInt, api.ErrArg, api.ErrArg},
	} {
		if got, e := counter.Inc(c.c, c.k, c.n); got != (api.Counter{}) || e != c.inc {
			t.Errorf("Inc, %s: %d, want %d", c.name, e, c.inc)
		}
		if got, e := counter.Dec(c.c, c.k, c.n); got != (api.Counter{}) || e != c.dec {
			t.Errorf("Dec, %s: %d, want %d", c.name, e, c.dec)
		}
	}
}

// P4.2: what is not asked about by rights.Use and rights.Give stays, be it as it may.
func TestIncAndDecKeepTheRest(t *testing.T) {
	for p := range places {
		if p == downGiven+4 || p == upGiven+4 || p == downUsed+4 || p == upUsed+4 {
			continue
		}
		c := put(full(), p, 12345)
		if got, e := counter.Inc(c, 4, 6); got != plus(plus(c, upUsed+4, 6), downGiven+4, 6) || e != api.OK {
			t.Fatalf("Inc beside place %d: %d", p, e)
		}
		if got, e := counter.Dec(c, 4, 6); got != plus(plus(c, downUsed+4, 6), upGiven+4, 6) || e != api.OK {
			t.Fatalf("Dec beside place %d: %d", p, e)
		}
	}
}

// P4.2: of each two replicas just what is free of both, and one more of either; nothing of one is none.
func TestHandOfEachTwoReplicas(t *testing.T) {
	for _, c := range []api.Counter{small(), full()} {
		for i := range 16 {
			down, up := counter.Room(c, i)
			for k := range 16 {
				if i == k {
					continue
				}
				for _, l := range [][2]int{{down, up}, {0, up}, {down, 0}, {0, 0}} {
					want := plus(plus(c, downMoved+16*i+k, l[0]), upMoved+16*i+k, l[1])
					if got, e := counter.Hand(c, i, k, l[0], l[1]); got != want || e != api.OK {
						t.Fatalf("Hand of %v from %d to %d: %d", l, i, k, e)
					}
				}
				for _, l := range [][2]int{{down + 1, up}, {down, up + 1}, {down + 1, 0}, {0, up + 1}} {
					if got, e := counter.Hand(c, i, k, l[0], l[1]); got != (api.Counter{}) || e != api.ErrRights {
						t.Fatalf("Hand of %v from %d to %d: %d", l, i, k, e)
					}
				}
			}
		}
	}
}

// P4.2: what is handed on is less at one, more at the other one; the value stays.
func TestHandKeepsTheValue(t *testing.T) {
	c, e := counter.Hand(small(), 1, 15, 3, 1)
	if e != api.OK || !counter.Right(c) {
		t.Fatal("Hand:", e)
	}
	for k, want := range map[int][2]int{0: {2, 3}, 1: {0, 1}, 15: {3, 3}} {
		if down, up := counter.Room(c, k); [2]int{down, up} != want {
			t.Errorf("Room at %d: %d, %d", k, down, up)
		}
	}
	if n, e := counter.Value(c); n != 5 || e != api.OK {
		t.Errorf("Value: %d, %d", n, e)
	}
}

// P4.2: of each edge, of no replicas, and of one to itself.
func TestHandOfEdges(t *testing.T) {
	replicas := []int{0, 1, 15, -1, 16, math.MaxInt, math.MinInt}
	amounts := []int{0, 1, 3, -1, most, most + 1, math.MaxInt, math.MinInt}
	for _, c := range some() {
		for _, i := range replicas {
			for _, k := range replicas {
				for _, down := range amounts {
					for _, up := range amounts {
						want, we := hand(c, i, k, down, up)
						if got, e := counter.Hand(c, i, k, down, up); got != want || e != we {
							t.Fatalf("Hand from %d to %d of %d and %d: %d, want %d", i, k, down, up, e, we)
						}
					}
				}
			}
		}
	}
}

// P4.2: the errors in their order: Down's, whichever it is, ahead of Up's.
func TestTheFirstErrorOfHand(t *testing.T) {
	downUp := put(small(), downGiven, most, downMoved+1, most, downMoved+2, -5)
	upUp := put(small(), upGiven, most, upMoved+1, most, upMoved+2, -5, upMoved+15, 0)
	for _, c := range []struct {
		name     string
		c        api.Counter
		i, k     int
		down, up int
		e        api.Errno
	}{
		{"no replica, no amounts", small(), 16, 1, -1, -1, api.ErrArg},
		{"no such other one", small(), 0, -1, 9, 9, api.ErrArg},
		{"the same", small(), 1, 1, 0, 0, api.ErrArg},
		{"no amount, too few of Up", small(), 0, 1, -1, 9, api.ErrArg},
		{"too few of Down, no amount of Up", small(), 0, 1, 9, -1, api.ErrRights},
		{"enough of Down, no amount of Up", small(), 0, 1, 2, -1, api.ErrArg},
		{"Down can't be told, no amount of Up", put(small(), downGiven, most+1), 0, 1, 0, -1, api.ErrRange},
		{"Down can't be told, too few of Up", put(small(), downGiven, most+1), 0, 1, 0, 9, api.ErrRange},
		{"too few of Down, Up can't be told", put(small(), upGiven, most+1), 0, 1, 3, 0, api.ErrRights},
		{"enough of Down, Up can't be told", put(small(), upGiven, most+1), 0, 1, 2, 0, api.ErrRange},
		{"Down's can't grow, too few of Up", downUp, 0, 1, 1, 9, api.ErrRange},
		{"too few of Down, Up's can't grow", upUp, 0, 1, 3, 1, api.ErrRights},
		{"enough of Down, Up's can't grow", upUp, 0, 1, 2, 1, api.ErrRange},
		{"below 0, of nothing", put(small(), downUsed, 9), 0, 1, 0, 0, api.ErrRights},
	} {
		if got, e := counter.Hand(c.c, c.i, c.k, c.down, c.up); got != (api.Counter{}) || e != c.e {
			t.Errorf("Hand, %s: %d, want %d", c.name, e, c.e)
		}
	}
}

// P4.2: each number of the rights for itself; of other bounds, or another beginning, none.
func TestJoinOfEdges(t *testing.T) {
	for p := range places {
		for _, n := range edges() {
			for _, m := range edges() {
				a, b := put(full(), p, n), put(full(), p, m)
				want, we := put(full(), p, max(n, m)), api.OK
				if p < downGiven && n != m {
					want, we = api.Counter{}, api.ErrArg
				}
				if got, e := counter.Join(a, b); got != want || e != we {
					t.Fatalf("Join with %d and %d at place %d: %d", n, m, p, e)
				}
			}
		}
	}
}

// P4.2: all that both know, of counters that may be.
func TestJoinOfKnownCounters(t *testing.T) {
	a, e := counter.Inc(small(), 1, 2)
	b, f := counter.Dec(small(), 0, 1)
	if e != api.OK || f != api.OK {
		t.Fatal("Inc, Dec:", e, f)
	}
	want := put(small(), upUsed+1, 3, downGiven+1, 3, downUsed, 2, upGiven, 9)
	for _, l := range [][2]api.Counter{{a, b}, {b, a}} {
		got, e := counter.Join(l[0], l[1])
		if n, f := counter.Value(got); got != want || e != api.OK || n != 6 || f != api.OK || !counter.Right(got) {
			t.Errorf("Join: %d; value %d, %d", e, n, f)
		}
	}
	for p := range downGiven {
		for _, n := range []int{-1, 1} {
			if got, e := counter.Join(a, plus(b, p, n)); got != (api.Counter{}) || e != api.ErrArg {
				t.Errorf("Join of another one at place %d: %d", p, e)
			}
		}
	}
	turned := put(small(), 0, 0, 2, 5)
	if got, e := counter.Join(put(small(), 0, 5, 1, 0, 2, 0), turned); got != (api.Counter{}) || e != api.ErrArg {
		t.Errorf("Join of the same numbers at other places: %d", e)
	}
}

// DOC.md, 'Words': joining hangs on no order, nor on how often.
func TestJoinHangsOnNoOrder(t *testing.T) {
	join := func(l ...api.Counter) api.Counter {
		all := l[0]
		for _, c := range l[1:] {
			var e api.Errno
			if all, e = counter.Join(all, c); e != api.OK {
				t.Fatal("Join:", e)
			}
		}
		return all
	}
	l := some()
	for i, a := range l {
		b, c := l[(i*7+3)%len(l)], l[(i*31+11)%len(l)]
		b.Init, b.Low, b.High = a.Init, a.Low, a.High
		c.Init, c.Low, c.High = a.Init, a.Low, a.High
		want := join(a, b, c)
		for _, o := range [][]api.Counter{{a, c, b}, {b, a, c}, {b, c, a}, {c, a, b}, {c, b, a}, {a, a, b, c, b}, {a, join(b, c)}, {join(b, a), join(c, a)}} {
			if join(o...) != want {
				t.Fatal("another order:", i)
			}
		}
		if join(a, a) != a {
			t.Fatal("with itself:", i)
		}
	}
}

// The chapter's example: New(5, 0, 10): Dec by 0 of 6: ErrRights; of 5, then Inc of 10: OK.
func TestTheExample(t *testing.T) {
	c, e := counter.New(5, 0, 10)
	if e != api.OK {
		t.Fatal("New:", e)
	}
	if d, e := counter.Dec(c, 0, 6); d != (api.Counter{}) || e != api.ErrRights {
		t.Error("Dec of 6:", e)
	}
	c, e = counter.Dec(c, 0, 5)
	if n, f := counter.Value(c); e != api.OK || n != 0 || f != api.OK {
		t.Error("Dec of 5:", e, n, f)
	}
	c, e = counter.Inc(c, 0, 10)
	if n, f := counter.Value(c); e != api.OK || n != 10 || f != api.OK {
		t.Error("Inc of 10:", e, n, f)
	}
	if d, e := counter.Inc(c, 0, 1); d != (api.Counter{}) || e != api.ErrRights {
		t.Error("Inc of one more:", e)
	}
}

// Rules, 'Memory': what is handed in stays as it was.
func TestNothingHandedInIsChanged(t *testing.T) {
	a, b := small(), small()
	b.Up.Used[3] = 4
	counter.Right(a)
	counter.Value(a)
	counter.Room(a, 0)
	counter.Inc(a, 0, 1)
	counter.Dec(a, 0, 1)
	counter.Hand(a, 0, 1, 1, 1)
	counter.Join(a, b)
	if b.Up.Used[3] = 0; a != small() || b != small() {
		t.Error("changed")
	}
}
