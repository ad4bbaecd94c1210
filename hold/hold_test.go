package hold_test

import (
	"math"
	"math/rand/v2"
	"slices"
	"testing"

	"usufruct/api"
	"usufruct/hold"
)

const most = 1 << 40

// edges: ordinary numbers, the edges of what a replica, a number, an amount and a state may be, one beyond each, and the outermost ints.
func edges() []int {
	return []int{-1, 0, 1, 2, 3, 4, 15, 16, most - 1, most, most + 1, -most, -most - 1, math.MaxInt, math.MinInt}
}

func isReplica(k int) bool { return k >= 0 && k <= 15 }

func isAmount(n int) bool { return n >= 0 && n <= most }

// mayBe is the section 'Words' of one hold, word for word.
func mayBe(h api.Hold) bool {
	return isReplica(h.Replica) && h.Number >= 1 && h.Number <= most && isAmount(h.Amount) && isAmount(h.Due) &&
		(h.State == api.Held || h.State == api.Kept || h.State == api.Gone)
}

// ahead tells whether a list that has a ahead of b rises there.
func ahead(a, b api.Hold) bool {
	return a.Replica < b.Replica || a.Replica == b.Replica && a.Number < b.Number
}

// allMayBe is the section 'Words' of holds: of any two the first one is the lower one.
func allMayBe(l []api.Hold) bool {
	if len(l) > 16 {
		return false
	}
	for i, h := range l {
		for _, g := range l[:i] {
			if !ahead(g, h) {
				return false
			}
		}
		if !mayBe(h) {
			return false
		}
	}
	return true
}

// sample may be, and each of its numbers can go up and down but the state.
func sample() api.Hold {
	return api.Hold{Replica: 3, Number: 7, Amount: 20, Due: 9, State: api.Held}
}

// few are holds of several replicas, in all three states.
func few() []api.Hold {
	return []api.Hold{
		{Replica: 0, Number: 1, Amount: 4, Due: 5, State: api.Held},
		{Replica: 0, Number: 2, Amount: 0, Due: 0, State: api.Gone},
		{Replica: 2, Number: 1, Amount: 7, Due: 6, State: api.Kept},
		{Replica: 2, Number: 4, Amount: 9, Due: 5, State: api.Held},
		{Replica: 2, Number: 9, Amount: 1, Due: most, State: api.Held},
		{Replica: 15, Number: most, Amount: most, Due: 4, State: api.Held},
	}
}

// many are n holds that may be, the last ones of replica 5.
func many(n int) []api.Hold {
	var l []api.Hold
	for i := range n {
		k := max(0, 5-n+1+i)
		l = append(l, api.Hold{Replica: k, Number: i + 1, Amount: i, Due: 10 * i, State: 1 + i%3})
	}
	return l
}

// at is number p of the five that a hold has.
func at(h *api.Hold, p int) *int {
	return []*int{&h.Replica, &h.Number, &h.Amount, &h.Due, &h.State}[p]
}

// wrongNumbers are, of each of the five, some that may not be.
func wrongNumbers() [][]int {
	return [][]int{
		{-1, 16, most, -most, math.MaxInt, math.MinInt},
		{0, -1, most + 1, -most, math.MaxInt, math.MinInt},
		{-1, most + 1, -most, math.MaxInt, math.MinInt},
		{-1, most + 1, -most, math.MaxInt, math.MinInt},
		{0, 4, -1, -2, -3, most, math.MaxInt, math.MinInt},
	}
}

// wrongLists are lists that may not be: out of their order, too long, or with one wrong number.
func wrongLists() [][]api.Hold {
	swapped := few()
	swapped[1], swapped[2] = swapped[2], swapped[1]
	falling := few()
	falling[3], falling[4] = falling[4], falling[3]
	twice := slices.Insert(few(), 3, few()[3])
	unlike := slices.Insert(few(), 3, few()[3])
	unlike[4].Amount, unlike[4].State = 5, api.Gone
	all := [][]api.Hold{swapped, falling, twice, unlike, {sample(), sample()}, many(17), many(100), slices.Repeat([]api.Hold{sample()}, 17)}
	for p, wrong := range wrongNumbers() {
		for _, n := range wrong {
			for i := range few() {
				l := few()
				*at(&l[i], p) = n
				all = append(all, l)
			}
		}
	}
	return all
}

// randomHolds are up to most16 holds that may be, of few names, so that two lists share some; what they share is of one amount and due.
func randomHolds(dice *rand.Rand, most16 int) []api.Hold {
	var l []api.Hold
	for range dice.IntN(most16 + 1) {
		k, n := dice.IntN(5), 1+dice.IntN(4)
		h := api.Hold{Replica: k, Number: n, Amount: 10*k + n, Due: k + n, State: 1 + dice.IntN(3)}
		i := 0
		for i < len(l) && ahead(l[i], h) {
			i++
		}
		if i == len(l) || ahead(h, l[i]) {
			l = slices.Insert(l, i, h)
		}
	}
	return l
}

// guarded is l with room behind its end, in which something stands.
func guarded(l []api.Hold) []api.Hold {
	room := append(slices.Clone(l), sample(), sample(), sample())
	return room[:len(l)]
}

// untouched tells whether l, and the room behind it, are as guarded made them.
func untouched(l, was []api.Hold) bool {
	room := l[:len(l)+3]
	return slices.Equal(l, was) && slices.Equal(room[len(l):], []api.Hold{sample(), sample(), sample()})
}

// scribble writes over a list, its spare room too.
func scribble(l []api.Hold) {
	l = l[:cap(l)]
	for i := range l {
		l[i] = api.Hold{Replica: -77, Number: -77, Amount: -77, Due: -77, State: -77}
	}
}

// P6.1: all of the edges in all five places.
func TestRight(t *testing.T) {
	may := 0
	for _, k := range edges() {
		for _, n := range edges() {
			for _, amount := range edges() {
				for _, due := range edges() {
					for _, state := range edges() {
						h := api.Hold{Replica: k, Number: n, Amount: amount, Due: due, State: state}
						if hold.Right(h) != mayBe(h) {
							t.Fatalf("Right(%v): %v", h, !mayBe(h))
						}
						if mayBe(h) {
							may++
						}
					}
				}
			}
		}
	}
	// Of the edges 6 may be a replica, 8 a number, 9 an amount or a time, 3 a state.
	if may != 6*8*9*9*3 {
		t.Error("how many may be:", may)
	}
}

// P6.1: one number that may not be is enough, wherever it stands, and so it is in a list.
func TestRightOfOneWrongNumber(t *testing.T) {
	if !hold.Right(sample()) || hold.Right(api.Hold{}) {
		t.Error("Right of a sample, or of the zero one")
	}
	for p, wrong := range wrongNumbers() {
		for _, n := range wrong {
			h := sample()
			*at(&h, p) = n
			if hold.Right(h) || hold.Rights([]api.Hold{h}) {
				t.Errorf("Right(%v)", h)
			}
		}
	}
}

// P6.1: none at all, 15, 16 and 17 of them.
func TestRights(t *testing.T) {
	for n, want := range map[int]bool{0: true, 1: true, 15: true, 16: true, 17: false, 18: false, 1000: false} {
		if hold.Rights(many(n)) != want {
			t.Errorf("Rights of %d: %v", n, !want)
		}
	}
	if !hold.Rights(nil) || !hold.Rights([]api.Hold{}) || !hold.Rights(few()) {
		t.Error("Rights of none, or of few")
	}
	for _, l := range wrongLists() {
		if hold.Rights(l) {
			t.Errorf("Rights(%v)", l)
		}
	}
}

// P6.1: all lists of three holds with low names, rising and not.
func TestRightsOfAllOrders(t *testing.T) {
	var names []api.Hold
	for k := range 3 {
		for n := 1; n <= 3; n++ {
			names = append(names, api.Hold{Replica: k, Number: n, State: api.Held})
		}
	}
	for _, a := range names {
		for _, b := range names {
			for _, c := range names {
				l := []api.Hold{a, b, c}
				if hold.Rights(l) != allMayBe(l) {
					t.Errorf("Rights(%v): %v", l, !allMayBe(l))
				}
			}
		}
	}
}

// P6.1: each that is there, and names that are not.
func TestFind(t *testing.T) {
	for _, want := range few() {
		if h, is := hold.Find(few(), want.Replica, want.Number); h != want || !is {
			t.Errorf("Find of %v: %v, %v", want, h, is)
		}
	}
	for _, k := range edges() {
		for _, n := range edges() {
			i := slices.IndexFunc(few(), func(h api.Hold) bool { return h.Replica == k && h.Number == n })
			want := api.Hold{}
			if i >= 0 {
				want = few()[i]
			}
			if h, is := hold.Find(few(), k, n); h != want || is != (i >= 0) {
				t.Errorf("Find(%d, %d): %v, %v; want %v", k, n, h, is, want)
			}
			if h, is := hold.Find(nil, k, n); h != (api.Hold{}) || is {
				t.Errorf("Find(%d, %d) of none: %v, %v", k, n, h, is)
			}
		}
	}
}

// P6.1: the first one of several, also in holds that may not be, and of names that may not.
func TestFindTheFirst(t *testing.T) {
	for _, name := range [][2]int{{3, 7}, {-1, 0}, {16, most + 1}, {math.MaxInt, math.MinInt}, {0, 0}} {
		first := api.Hold{Replica: name[0], Number: name[1], Amount: 5}
		second := api.Hold{Replica: name[0], Number: name[1], Amount: 6, State: api.Kept}
		other := api.Hold{Replica: name[1], Number: name[0], Amount: 7}
		if h, is := hold.Find([]api.Hold{{Replica: 9, Number: 9}, first, second}, name[0], name[1]); h != first || !is {
			t.Errorf("Find of two of %v: %v, %v", name, h, is)
		}
		if h, is := hold.Find([]api.Hold{second, first}, name[0], name[1]); h != second || !is {
			t.Errorf("Find of two of %v: %v, %v", name, h, is)
		}
		if h, is := hold.Find([]api.Hold{other}, name[0], name[1]); is != (name[0] == name[1]) || !is && h != (api.Hold{}) {
			t.Errorf("Find of %v turned round: %v, %v", name, h, is)
		}
	}
	long := append(many(100), sample())
	if h, is := hold.Find(long, 3, 7); h != sample() || !is {
		t.Errorf("Find in a long list: %v, %v", h, is)
	}
}

// P6.1: what is Held of one replica alone.
func TestSum(t *testing.T) {
	for k, want := range map[int]int{0: 4, 1: 0, 2: 10, 14: 0, 15: most, 16: 0, -1: 0, most: 0, math.MaxInt: 0, math.MinInt: 0} {
		if got := hold.Sum(few(), k); got != want {
			t.Errorf("Sum of %d: %d; want %d", k, got, want)
		}
		if got := hold.Sum(nil, k); got != 0 {
			t.Errorf("Sum of %d in none: %d", k, got)
		}
	}
	dice := rand.New(rand.NewPCG(6, 1))
	for range 2000 {
		l := randomHolds(dice, 16)
		for k := -1; k <= 5; k++ {
			want := 0
			for _, h := range l {
				if h.State == api.Held && h.Replica == k {
					want += h.Amount
				}
			}
			if got := hold.Sum(l, k); got != want {
				t.Fatalf("Sum(%v, %d): %d; want %d", l, k, got, want)
			}
		}
	}
}

// P6.1: sums just below 2^40, of that, one above it, and as great as they can be.
func TestSumAtTheEdge(t *testing.T) {
	of := func(amounts ...int) []api.Hold {
		var l []api.Hold
		for i, n := range amounts {
			l = append(l, api.Hold{Replica: 15, Number: i + 1, Amount: n, State: api.Held})
		}
		return l
	}
	for _, c := range []struct {
		l    []api.Hold
		want int
	}{
		{of(most-2, 1), most - 1},
		{of(most-1, 1), most},
		{of(1, most-1, 0), most},
		{of(most, 0), most},
		{of(most, 1), most},
		{of(1, most), most},
		{of(most/2, most/2, 1), most},
		{of(most, most, 0, 0), most},
		{of(slices.Repeat([]int{most}, 16)...), most},
		{of(slices.Repeat([]int{most / 16}, 16)...), most},
		{of(slices.Repeat([]int{most/16 + 1}, 16)...), most},
		{of(append(slices.Repeat([]int{most / 16}, 15), most/16-1)...), most - 1},
	} {
		if got := hold.Sum(c.l, 15); got != c.want {
			t.Errorf("Sum(%v): %d; want %d", c.l, got, c.want)
		}
	}
}

// P6.1: of holds that may not be nothing is said but that it ends; whatever it tells may be a number.
func TestSumOfWrongOnes(t *testing.T) {
	for _, l := range wrongLists() {
		for _, k := range edges() {
			if n := hold.Sum(l, k); n < 0 || n > most {
				t.Errorf("Sum(%v, %d): %d", l, k, n)
			}
		}
	}
}

// reserved is P6.2's Reserve, word for word.
func reserved(l []api.Hold, k, amount, due int) ([]api.Hold, int, api.Errno) {
	n := 1
	for _, h := range l {
		if h.Replica == k && h.Number >= n {
			n = h.Number + 1
		}
	}
	if !allMayBe(l) || !isReplica(k) || !isAmount(amount) || !isAmount(due) || n > most {
		return nil, 0, api.ErrArg
	}
	if len(l) == 16 {
		return nil, 0, api.ErrFull
	}
	more := api.Hold{Replica: k, Number: n, Amount: amount, Due: due, State: api.Held}
	i := 0
	for i < len(l) && ahead(l[i], more) {
		i++
	}
	return slices.Insert(slices.Clone(l), i, more), n, api.OK
}

// reserve holds Reserve against the document's words, and looks at what it was handed.
func reserve(t *testing.T, l []api.Hold, k, amount, due int) ([]api.Hold, int, api.Errno) {
	t.Helper()
	in := guarded(l)
	got, n, e := hold.Reserve(in, k, amount, due)
	want, m, f := reserved(l, k, amount, due)
	if !slices.Equal(got, want) || n != m || e != f {
		t.Fatalf("Reserve(%v, %d, %d, %d): %v, %d, %d; want %v, %d, %d", l, k, amount, due, got, n, e, want, m, f)
	}
	if e == api.OK && !hold.Rights(got) {
		t.Fatalf("Reserve(%v, %d, %d, %d): %v, that may not be", l, k, amount, due, got)
	}
	scribble(got)
	if !untouched(in, l) {
		t.Fatalf("Reserve(%v, %d, %d, %d) has changed, or shares, what it was given", l, k, amount, due)
	}
	return want, n, e
}

// P6.2: all edges in all places, of none, few, 15 and 16, and of lists that may not be.
func TestReserve(t *testing.T) {
	lists := append([][]api.Hold{nil, {}, few(), many(15), many(16)}, wrongLists()...)
	for i, l := range lists {
		for _, k := range edges() {
			for _, amount := range edges() {
				if i < 5 || k == 2 {
					for _, due := range edges() {
						reserve(t, l, k, amount, due)
					}
				}
			}
		}
	}
}

// P6.2: each replica counts its own, from 1 on, whatever became of them.
func TestReserveCounts(t *testing.T) {
	dice := rand.New(rand.NewPCG(6, 2))
	for range 200 {
		var l []api.Hold
		counts := map[int]int{}
		for i := range 16 {
			k := dice.IntN(16)
			counts[k]++
			more, n, e := reserve(t, l, k, i, 100-i)
			if n != counts[k] || e != api.OK {
				t.Fatalf("Reserve(%v, %d): number %d, %d; want %d", l, k, n, e, counts[k])
			}
			l = more
			l[dice.IntN(len(l))].State = 1 + dice.IntN(3)
		}
		if _, _, e := reserve(t, l, dice.IntN(16), 0, 0); e != api.ErrFull {
			t.Fatalf("a 17th: %d", e)
		}
	}
}

// P6.2: a greatest number that can just grow by 1, and one that can't; the number behind the greatest, not a gap.
func TestReserveOfGreatNumbers(t *testing.T) {
	for _, c := range []struct {
		n, want int
		e       api.Errno
	}{{1, 2, api.OK}, {9, 10, api.OK}, {most - 2, most - 1, api.OK}, {most - 1, most, api.OK}, {most, 0, api.ErrArg}} {
		for _, k := range []int{0, 7, 15} {
			l := []api.Hold{{Replica: k, Number: c.n, State: api.Gone}}
			if _, n, e := reserve(t, l, k, 1, 1); n != c.want || e != c.e {
				t.Errorf("Reserve behind %d: %d, %d", c.n, n, e)
			}
			for _, other := range []int{1, 14} {
				if _, n, e := reserve(t, l, other, 1, 1); n != 1 || e != api.OK {
					t.Errorf("Reserve by %d behind %d of %d: %d, %d", other, c.n, k, n, e)
				}
			}
		}
	}
}

// P6.2: ErrArg comes ahead of ErrFull, that of a number that would be too great too.
func TestReserveTellsTheFirst(t *testing.T) {
	full := many(16)
	full[15].Number = most
	k := full[15].Replica
	for _, c := range []struct {
		l              []api.Hold
		k, amount, due int
		want           api.Errno
	}{
		{full, k, 1, 1, api.ErrArg},
		{full, 9, 1, 1, api.ErrFull},
		{full, 16, 1, 1, api.ErrArg},
		{full, -1, 1, 1, api.ErrArg},
		{full, 9, -1, 1, api.ErrArg},
		{full, 9, most + 1, 1, api.ErrArg},
		{full, 9, 1, -1, api.ErrArg},
		{full, 9, 1, most + 1, api.ErrArg},
		{full, 9, most, most, api.ErrFull},
		{many(17), 9, 1, 1, api.ErrArg},
		{many(16), k, 1, 1, api.ErrFull},
		{many(15), 9, 1, 1, api.OK},
	} {
		if _, _, e := reserve(t, c.l, c.k, c.amount, c.due); e != c.want {
			t.Errorf("Reserve of %d, %d, %d: %d; want %d", c.k, c.amount, c.due, e, c.want)
		}
	}
}

// ended is P6.2's End, word for word.
func ended(l []api.Hold, k, n, state int) ([]api.Hold, int, api.Errno) {
	if !allMayBe(l) || state != api.Kept && state != api.Gone {
		return nil, 0, api.ErrArg
	}
	for i, h := range l {
		if h.Replica == k && h.Number == n {
			if h.State != api.Held {
				return nil, 0, api.ErrState
			}
			h.State = state
			return slices.Concat(l[:i], []api.Hold{h}, l[i+1:]), h.Amount, api.OK
		}
	}
	return nil, 0, api.ErrNone
}

// end holds End against the document's words, and looks at what it was handed.
func end(t *testing.T, l []api.Hold, k, n, state int) ([]api.Hold, int, api.Errno) {
	t.Helper()
	in := guarded(l)
	got, amount, e := hold.End(in, k, n, state)
	want, wa, we := ended(l, k, n, state)
	if !slices.Equal(got, want) || amount != wa || e != we {
		t.Fatalf("End(%v, %d, %d, %d): %v, %d, %d; want %v, %d, %d", l, k, n, state, got, amount, e, want, wa, we)
	}
	scribble(got)
	if !untouched(in, l) {
		t.Fatalf("End(%v, %d, %d, %d) has changed, or shares, what it was given", l, k, n, state)
	}
	return want, amount, e
}

// P6.2: all edges in all places, of none, few, 16, and of lists that may not be.
func TestEnd(t *testing.T) {
	lists := append([][]api.Hold{nil, {}, few(), many(15), many(16)}, wrongLists()...)
	for i, l := range lists {
		for _, k := range edges() {
			for _, n := range append(edges(), 9) {
				if i < 5 || k == 2 {
					for _, state := range edges() {
						end(t, l, k, n, state)
					}
				}
			}
		}
	}
}

// P6.2: each hold of a list, to each state; the others stay as they are.
func TestEndOfEach(t *testing.T) {
	for _, l := range [][]api.Hold{few(), many(16), {sample()}} {
		for i, h := range l {
			for state := -1; state <= 5; state++ {
				_, amount, e := end(t, l, h.Replica, h.Number, state)
				want, we := 0, api.OK
				switch {
				case state < api.Kept || state > api.Gone:
					we = api.ErrArg
				case l[i].State != api.Held:
					we = api.ErrState
				default:
					want = h.Amount
				}
				if amount != want || e != we {
					t.Errorf("End of %v as %d: %d, %d; want %d, %d", h, state, amount, e, want, we)
				}
			}
		}
	}
}

// P6.2: ErrArg comes ahead of ErrNone and of ErrState; of replicas and numbers that may not be there is none such.
func TestEndTellsTheFirst(t *testing.T) {
	for _, c := range []struct {
		l           []api.Hold
		k, n, state int
		want        api.Errno
	}{
		{few(), 2, 4, api.Kept, api.OK},
		{few(), 2, 1, api.Kept, api.ErrState},
		{few(), 2, 1, api.Gone, api.ErrState},
		{few(), 0, 2, api.Gone, api.ErrState},
		{few(), 0, 2, api.Kept, api.ErrState},
		{few(), 2, 1, api.Held, api.ErrArg},
		{few(), 2, 4, api.Held, api.ErrArg},
		{few(), 2, 2, api.Held, api.ErrArg},
		{few(), 2, 2, 4, api.ErrArg},
		{few(), 2, 2, api.Gone, api.ErrNone},
		{few(), 16, 1, api.Gone, api.ErrNone},
		{few(), -1, 1, api.Gone, api.ErrNone},
		{few(), 2, 0, api.Gone, api.ErrNone},
		{few(), 15, most + 1, api.Gone, api.ErrNone},
		{few(), 15, most, api.Gone, api.OK},
		{nil, 0, 0, api.Gone, api.ErrNone},
		{nil, 0, 0, api.Held, api.ErrArg},
		{[]api.Hold{{}}, 0, 0, api.Gone, api.ErrArg},
		{many(17), 99, 99, api.Gone, api.ErrArg},
	} {
		if _, _, e := end(t, c.l, c.k, c.n, c.state); e != c.want {
			t.Errorf("End of %v, %d, %d, %d: %d; want %d", c.l, c.k, c.n, c.state, e, c.want)
		}
	}
}

// expired is P6.2's Expire, word for word.
func expired(l []api.Hold, k, now int) ([]api.Hold, int) {
	if !allMayBe(l) {
		return l, 0
	}
	var left []api.Hold
	gone := 0
	for _, h := range l {
		if h.Replica == k && h.State == api.Held && h.Due < now {
			h.State = api.Gone
			gone++
		}
		left = append(left, h)
	}
	return left, gone
}

// expire holds Expire against the document's words, and looks at what it was handed.
func expire(t *testing.T, l []api.Hold, k, now int) ([]api.Hold, int) {
	t.Helper()
	in := guarded(l)
	got, n := hold.Expire(in, k, now)
	want, m := expired(l, k, now)
	if !slices.Equal(got, want) || n != m {
		t.Fatalf("Expire(%v, %d, %d): %v, %d; want %v, %d", l, k, now, got, n, want, m)
	}
	scribble(got)
	if !untouched(in, l) {
		t.Fatalf("Expire(%v, %d, %d) has changed, or shares, what it was given", l, k, now)
	}
	return want, n
}

// P6.2: all edges in both places; of lists that may not be nothing is done.
func TestExpire(t *testing.T) {
	lists := append([][]api.Hold{nil, {}, few(), many(15), many(16)}, wrongLists()...)
	for i, l := range lists {
		for _, k := range edges() {
			for _, now := range append(edges(), 5, 6, 7, 50, 1000) {
				_, n := expire(t, l, k, now)
				if i >= 5 && n != 0 {
					t.Errorf("Expire(%v, %d, %d): %d", l, k, now, n)
				}
			}
		}
	}
}

// P6.2: a Due just below now is over, one that is now is not; of one replica alone, and all of its Held ones.
func TestExpireAtTheEdge(t *testing.T) {
	for _, due := range []int{0, 1, 9, most - 1, most} {
		l := []api.Hold{
			{Replica: 1, Number: 1, Due: due, State: api.Held},
			{Replica: 2, Number: 1, Amount: 3, Due: due, State: api.Held},
			{Replica: 2, Number: 2, Amount: 4, Due: due, State: api.Kept},
			{Replica: 2, Number: 3, Amount: 5, Due: due, State: api.Gone},
			{Replica: 2, Number: 4, Amount: 6, Due: due, State: api.Held},
			{Replica: 3, Number: 1, Due: due, State: api.Held},
		}
		for now, want := range map[int]int{due - 1: 0, due: 0, due + 1: 2, due + 2: 2, math.MaxInt: 2, math.MinInt: 0} {
			left, n := expire(t, l, 2, now)
			if n != want || hold.Sum(left, 2) != 9*(2-want)/2 || hold.Sum(left, 1) != 0 || left[0].State != api.Held || left[5].State != api.Held {
				t.Errorf("Expire at %d of %d: %v, %d", now, due, left, n)
			}
			if _, n := expire(t, left, 2, now); n != 0 {
				t.Errorf("Expire again at %d of %d: %d", now, due, n)
			}
		}
	}
}

// P6.2: the chapter's example.
func TestExample(t *testing.T) {
	l, n, e := hold.Reserve(nil, 2, 5, 9)
	if n != 1 || e != api.OK || !slices.Equal(l, []api.Hold{{Replica: 2, Number: 1, Amount: 5, Due: 9, State: api.Held}}) {
		t.Fatal("Reserve:", l, n, e)
	}
	if m, n := hold.Expire(l, 2, 9); n != 0 || !slices.Equal(m, l) {
		t.Error("Expire at 9:", m, n)
	}
	if m, n := hold.Expire(l, 2, 10); n != 1 || len(m) != 1 || m[0].State != api.Gone {
		t.Error("Expire at 10:", m, n)
	}
}

// P6.2, P6.3: nil and empty lists mean the same.
func TestNone(t *testing.T) {
	for _, l := range [][]api.Hold{nil, {}} {
		if m, n, e := hold.Reserve(l, 0, 0, 0); !slices.Equal(m, []api.Hold{{Number: 1, State: api.Held}}) || n != 1 || e != api.OK {
			t.Errorf("Reserve: %v, %d, %d", m, n, e)
		}
		if m, n := hold.Expire(l, 0, math.MaxInt); len(m) != 0 || n != 0 {
			t.Errorf("Expire: %v, %d", m, n)
		}
		for _, k := range [][]api.Hold{nil, {}} {
			if m, e := hold.Join(l, k); len(m) != 0 || e != api.OK {
				t.Errorf("Join: %v, %d", m, e)
			}
		}
	}
}
