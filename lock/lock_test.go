package lock_test

import (
	"math"
	"testing"

	"usufruct/api"
	"usufruct/lock"
)

const most = 1 << 40

// edges: ordinary numbers, the edges of what a replica, a count and a value may be, one beyond each, and the outermost ints.
func edges() []int {
	return []int{0, 1, 7, 15, 16, -1, -7, most - 1, most, most + 1, 1 - most, -most, -most - 1, math.MaxInt - 1, math.MaxInt, math.MinInt, math.MinInt + 1}
}

func isReplica(k int) bool { return k >= 0 && k <= 15 }

func isValue(n int) bool { return n >= -most && n <= most }

func isCount(n int) bool { return n >= 0 && n <= most }

// canGrow tells whether n and n + 1 may both be numbers, as layer 1 asks of a sum.
func canGrow(n int) bool { return n >= -most && n < most }

// behind is the rule of the section 'Words', word for word.
func behind(a, b api.Lock) bool {
	return a.Seq > b.Seq ||
		a.Seq == b.Seq && a.Ver > b.Ver ||
		a.Seq == b.Seq && a.Ver == b.Ver && a.Holder > b.Holder ||
		a.Seq == b.Seq && a.Ver == b.Ver && a.Holder == b.Holder && a.Value > b.Value
}

// grid is all locks that are made of these numbers.
func grid(l ...int) []api.Lock {
	var all []api.Lock
	for _, seq := range l {
		for _, ver := range l {
			for _, holder := range l {
				for _, value := range l {
					all = append(all, api.Lock{Seq: seq, Ver: ver, Holder: holder, Value: value})
				}
			}
		}
	}
	return all
}

// at is number p of the four that a lock has.
func at(l *api.Lock, p int) *int {
	return []*int{&l.Seq, &l.Ver, &l.Holder, &l.Value}[p]
}

// sample may be, and each of its numbers can go up and down.
func sample() api.Lock {
	return api.Lock{Seq: 4, Ver: 9, Holder: 3, Value: -20}
}

// P5.1: ErrArg of a holder comes ahead of ErrRange of a value.
func TestNew(t *testing.T) {
	for _, holder := range edges() {
		for _, value := range edges() {
			want, we := api.Lock{Holder: holder, Value: value}, api.OK
			if !isReplica(holder) {
				want, we = api.Lock{}, api.ErrArg
			} else if !isValue(value) {
				want, we = api.Lock{}, api.ErrRange
			}
			if got, e := lock.New(holder, value); got != want || e != we {
				t.Errorf("New(%d, %d): %v, %d; want %v, %d", holder, value, got, e, want, we)
			}
		}
	}
}

// P5.1: each of the 16 replicas may hold a new one, and what is new may be.
func TestNewOfEachReplica(t *testing.T) {
	for k := range 16 {
		for _, value := range []int{5, 0, -5, most, -most} {
			l, e := lock.New(k, value)
			if e != api.OK || l != (api.Lock{Holder: k, Value: value}) || !lock.Right(l) {
				t.Errorf("New(%d, %d): %v, %d", k, value, l, e)
			}
		}
	}
}

// P5.1: all of the edges in all four places.
func TestRight(t *testing.T) {
	may := 0
	for _, l := range grid(edges()...) {
		want := isCount(l.Seq) && isCount(l.Ver) && isReplica(l.Holder) && isValue(l.Value)
		if lock.Right(l) != want {
			t.Errorf("Right(%v): %v", l, !want)
		}
		if want {
			may++
		}
	}
	// Of the edges 7 may be a count, 4 a replica, and 11 a value.
	if may != 7*7*4*11 {
		t.Error("how many may be:", may)
	}
}

// P5.1: one number that may not be is enough, wherever it stands.
func TestRightOfOneWrongNumber(t *testing.T) {
	for p, l := range [][]int{
		{-1, most + 1, math.MaxInt, math.MinInt},
		{-1, most + 1, math.MaxInt, math.MinInt},
		{-1, 16, most, -most, math.MaxInt, math.MinInt},
		{-most - 1, most + 1, math.MaxInt, math.MinInt},
	} {
		for _, n := range l {
			wrong := sample()
			*at(&wrong, p) = n
			if lock.Right(wrong) || !lock.Right(sample()) {
				t.Errorf("Right(%v)", wrong)
			}
		}
	}
}

// checkTwo holds Compare and Join of two against the words.
func checkTwo(t *testing.T, a, b api.Lock) {
	want, join := 0, a
	if behind(a, b) {
		want = 1
	} else if behind(b, a) {
		want, join = -1, b
	}
	if got := lock.Compare(a, b); got != want {
		t.Errorf("Compare(%v, %v): %d; want %d", a, b, got, want)
	}
	if got := lock.Join(a, b); got != join {
		t.Errorf("Join(%v, %v): %v; want %v", a, b, got, join)
	}
}

// P5.1: locks that may be, and such as may not: all pairs of them.
func TestCompareAndJoinOfAllPairs(t *testing.T) {
	all := grid(math.MinInt, -1, 0, 1, math.MaxInt)
	for _, a := range all {
		for _, b := range all {
			checkTwo(t, a, b)
		}
	}
}

// P5.1: two that differ in one number alone, each of the four, by each pair of edges: differences that wrap round too.
func TestCompareAndJoinOfOneDifference(t *testing.T) {
	for p := range 4 {
		for _, n := range edges() {
			for _, m := range edges() {
				a, b := sample(), sample()
				*at(&a, p), *at(&b, p) = n, m
				checkTwo(t, a, b)
				want := 0
				if n > m {
					want = 1
				} else if n < m {
					want = -1
				}
				if got := lock.Compare(a, b); got != want {
					t.Errorf("Compare(%v, %v): %d; want %d", a, b, got, want)
				}
			}
		}
	}
}

// P5.1: where several disagree the first one of Seq, Ver, Holder and Value decides, however far the others are off.
func TestCompareAndJoinOfSeveralThatDisagree(t *testing.T) {
	for _, c := range []struct{ behind, ahead api.Lock }{
		{api.Lock{Seq: 1}, api.Lock{Ver: most, Holder: 15, Value: most}},
		{api.Lock{Seq: most}, api.Lock{Seq: most - 1, Ver: most, Holder: 15, Value: most}},
		{api.Lock{Seq: 2, Ver: 1}, api.Lock{Seq: 2, Holder: 15, Value: most}},
		{api.Lock{Seq: 2, Ver: most, Value: -most}, api.Lock{Seq: 2, Ver: most - 1, Holder: 15, Value: most}},
		{api.Lock{Seq: 2, Ver: 3, Holder: 1, Value: -most}, api.Lock{Seq: 2, Ver: 3, Value: most}},
		{api.Lock{Seq: 2, Ver: 3, Holder: 15}, api.Lock{Seq: 2, Ver: 3, Holder: 14, Value: 1}},
		{api.Lock{Seq: 2, Ver: 3, Holder: 4, Value: 1 - most}, api.Lock{Seq: 2, Ver: 3, Holder: 4, Value: -most}},
		{api.Lock{Seq: 1, Ver: 0, Holder: 5}, api.Lock{Seq: 0, Ver: 1, Holder: 5}},
		{api.Lock{Seq: 1, Value: 0}, api.Lock{Seq: 0, Value: 1}},
	} {
		if x, y := lock.Compare(c.behind, c.ahead), lock.Compare(c.ahead, c.behind); x != 1 || y != -1 {
			t.Errorf("Compare of %v and %v: %d, %d", c.behind, c.ahead, x, y)
		}
		if x, y := lock.Join(c.behind, c.ahead), lock.Join(c.ahead, c.behind); x != c.behind || y != c.behind {
			t.Errorf("Join of %v and %v: %v, %v", c.behind, c.ahead, x, y)
		}
		if lock.Compare(c.behind, c.behind) != 0 || lock.Join(c.ahead, c.ahead) != c.ahead {
			t.Errorf("%v and %v, each with itself", c.behind, c.ahead)
		}
	}
}

// P5.2: of locks that may be, and such as may not; the words ask about the holder, the value and Ver alone.
func TestWrite(t *testing.T) {
	for _, l := range grid(0, 3, 15, 16, -1, most, math.MinInt, math.MaxInt) {
		for _, k := range []int{l.Holder, 0, 3, 15, 16, -1, math.MaxInt, math.MinInt} {
			for _, value := range []int{0, 6, -6, most, most + 1, -most, -most - 1, math.MaxInt, math.MinInt} {
				checkWrite(t, l, k, value)
			}
		}
	}
}

// P5.2: a Ver that can just grow, and one that can't.
func TestWriteOfEachVer(t *testing.T) {
	for _, ver := range edges() {
		for _, value := range edges() {
			l := sample()
			l.Ver = ver
			checkWrite(t, l, 3, value)
			checkWrite(t, l, 4, value)
		}
	}
}

func checkWrite(t *testing.T, l api.Lock, k, value int) {
	want, we := api.Lock{}, api.OK
	switch {
	case k != l.Holder:
		we = api.ErrHolder
	case !isValue(value) || !canGrow(l.Ver):
		we = api.ErrRange
	default:
		want = api.Lock{Seq: l.Seq, Ver: l.Ver + 1, Holder: l.Holder, Value: value}
	}
	if got, e := lock.Write(l, k, value); got != want || e != we {
		t.Errorf("Write(%v, %d, %d): %v, %d; want %v, %d", l, k, value, got, e, want, we)
	}
}

// P5.2: of locks that may be, and such as may not; the words ask about the holder, the one to get it and Seq alone.
func TestPass(t *testing.T) {
	for _, l := range grid(0, 3, 15, 16, -1, most, math.MinInt, math.MaxInt) {
		for _, k := range []int{l.Holder, 0, 3, 15, 16, -1, math.MaxInt, math.MinInt} {
			for _, to := range []int{0, 3, 15, 16, -1, 17, most, math.MaxInt, math.MinInt} {
				checkPass(t, l, k, to)
			}
		}
	}
}

// P5.2: a Seq that can just grow, and one that can't.
func TestPassOfEachSeq(t *testing.T) {
	for _, seq := range edges() {
		for _, to := range edges() {
			l := sample()
			l.Seq = seq
			checkPass(t, l, 3, to)
			checkPass(t, l, 4, to)
		}
	}
}

func checkPass(t *testing.T, l api.Lock, k, to int) {
	want, we := api.Lock{}, api.OK
	switch {
	case k != l.Holder:
		we = api.ErrHolder
	case !isReplica(to):
		we = api.ErrArg
	case !canGrow(l.Seq):
		we = api.ErrRange
	default:
		want = api.Lock{Seq: l.Seq + 1, Ver: 0, Holder: to, Value: l.Value}
	}
	if got, e := lock.Pass(l, k, to); got != want || e != we {
		t.Errorf("Pass(%v, %d, %d): %v, %d; want %v, %d", l, k, to, got, e, want, we)
	}
}

// P5.2: each replica to each other one, and to itself.
func TestPassFromEachToEach(t *testing.T) {
	for k := range 16 {
		l := api.Lock{Seq: 5, Ver: 8, Holder: k, Value: -most}
		for to := range 16 {
			checkPass(t, l, k, to)
			checkWrite(t, l, to, most)
			p, e := lock.Pass(l, k, to)
			if e != api.OK || !lock.Right(p) || lock.Compare(p, l) != 1 {
				t.Errorf("Pass from %d to %d: %v, %d", k, to, p, e)
			}
		}
	}
}

// P5.2: where two errors could be told, the one that the words name first.
func TestFirstError(t *testing.T) {
	full := api.Lock{Seq: most, Ver: most, Holder: 2}
	for i, c := range []struct {
		call func() (api.Lock, api.Errno)
		e    api.Errno
	}{
		{func() (api.Lock, api.Errno) { return lock.New(16, most+1) }, api.ErrArg},
		{func() (api.Lock, api.Errno) { return lock.New(-1, math.MinInt) }, api.ErrArg},
		{func() (api.Lock, api.Errno) { return lock.Write(full, 1, most+1) }, api.ErrHolder},
		{func() (api.Lock, api.Errno) { return lock.Write(full, 1, 0) }, api.ErrHolder},
		{func() (api.Lock, api.Errno) { return lock.Write(full, 2, most+1) }, api.ErrRange},
		{func() (api.Lock, api.Errno) { return lock.Write(full, 2, 0) }, api.ErrRange},
		{func() (api.Lock, api.Errno) { return lock.Pass(full, 1, 16) }, api.ErrHolder},
		{func() (api.Lock, api.Errno) { return lock.Pass(full, 1, 0) }, api.ErrHolder},
		{func() (api.Lock, api.Errno) { return lock.Pass(full, 2, 16) }, api.ErrArg},
		{func() (api.Lock, api.Errno) { return lock.Pass(full, 2, -1) }, api.ErrArg},
		{func() (api.Lock, api.Errno) { return lock.Pass(full, 2, 2) }, api.ErrRange},
	} {
		if l, e := c.call(); l != (api.Lock{}) || e != c.e {
			t.Errorf("case %d: %v, %d; want %d", i, l, e, c.e)
		}
	}
}

// P5.2, and example 1 of the chapter: whoever does not hold it can't write it, nor whoever has passed it on.
func TestPassedOn(t *testing.T) {
	l, _ := lock.New(3, 5)
	if _, e := lock.Write(l, 2, 1); e != api.ErrHolder {
		t.Error("Write by another one:", e)
	}
	l, _ = lock.Write(l, 3, 6)
	l, _ = lock.Pass(l, 3, 15)
	if l != (api.Lock{Seq: 1, Holder: 15, Value: 6}) {
		t.Error("passed on:", l)
	}
	if _, e := lock.Write(l, 3, 7); e != api.ErrHolder {
		t.Error("Write by who passed it on:", e)
	}
	if _, e := lock.Pass(l, 3, 3); e != api.ErrHolder {
		t.Error("Pass by who passed it on:", e)
	}
	if l, e := lock.Write(l, 15, 7); l != (api.Lock{Seq: 1, Ver: 1, Holder: 15, Value: 7}) || e != api.OK {
		t.Error("Write by who got it:", l, e)
	}
}
