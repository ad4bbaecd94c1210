package field_test

import (
	"fmt"
	"math"
	"slices"
	"testing"

	"usufruct/api"
	"usufruct/counter"
	"usufruct/field"
	"usufruct/hold"
	"usufruct/lock"
)

// answer is what a call of P7.2 tells: a field, a number where it has one, an error where it has one.
type answer struct {
	f api.Field
	n int
	e api.Errno
}

// none is what is told beside an error.
func none(e api.Errno) answer { return answer{e: e} }

// told is f beside OK, and nothing beside an error.
func told(f api.Field, e api.Errno) answer {
	if e != api.OK {
		return none(e)
	}
	return answer{f: f}
}

// ask holds what a call answers against want, and looks at what the call was handed.
func ask(t *testing.T, f api.Field, want answer, what string, call func(api.Field) answer) answer {
	t.Helper()
	in := guarded(f)
	got := call(in)
	if !alike(got.f, want.f) || got.n != want.n || got.e != want.e {
		t.Fatalf("%s of %v: %v; want %v", what, f, got, want)
	}
	scribble(got.f)
	if !untouched(in, f) {
		t.Fatalf("%s of %v has changed, or shares, what it was given", what, f)
	}
	return want
}

// change is ask of a call that makes another field of one: of one that may be, one that may be.
func change(t *testing.T, f api.Field, want answer, what string, call func(api.Field) answer) answer {
	t.Helper()
	got := ask(t, f, want, what, call)
	if got.e == api.OK && field.Right(f) && !field.Right(got.f) {
		t.Fatalf("%s of %v: %v, that may not be", what, f, got.f)
	}
	return got
}

func add(t *testing.T, f api.Field, k, n int) answer {
	t.Helper()
	return change(t, f, added(f, k, n), fmt.Sprint("Add ", k, n), func(f api.Field) (a answer) {
		a.f, a.e = field.Add(f, k, n)
		return a
	})
}

func hand(t *testing.T, f api.Field, i, k, down, up int) answer {
	t.Helper()
	return change(t, f, handed(f, i, k, down, up), fmt.Sprint("Hand ", i, k, down, up), func(f api.Field) (a answer) {
		a.f, a.e = field.Hand(f, i, k, down, up)
		return a
	})
}

func reserve(t *testing.T, f api.Field, k, amount, due int) answer {
	t.Helper()
	return change(t, f, reserved(f, k, amount, due), fmt.Sprint("Reserve ", k, amount, due), func(f api.Field) (a answer) {
		a.f, a.n, a.e = field.Reserve(f, k, amount, due)
		return a
	})
}

func end(t *testing.T, f api.Field, k, n, state int) answer {
	t.Helper()
	return change(t, f, ended(f, k, n, state), fmt.Sprint("End ", k, n, state), func(f api.Field) (a answer) {
		a.f, a.e = field.End(f, k, n, state)
		return a
	})
}

func expire(t *testing.T, f api.Field, k, now int) answer {
	t.Helper()
	return change(t, f, expired(f, k, now), fmt.Sprint("Expire ", k, now), func(f api.Field) (a answer) {
		a.f, a.n = field.Expire(f, k, now)
		return a
	})
}

func write(t *testing.T, f api.Field, k, value int) answer {
	t.Helper()
	return change(t, f, written(f, k, value), fmt.Sprint("Write ", k, value), func(f api.Field) (a answer) {
		a.f, a.e = field.Write(f, k, value)
		return a
	})
}

func pass(t *testing.T, f api.Field, k, to int) answer {
	t.Helper()
	return change(t, f, passed(f, k, to), fmt.Sprint("Pass ", k, to), func(f api.Field) (a answer) {
		a.f, a.e = field.Pass(f, k, to)
		return a
	})
}

// looseDown is the section 'Words' of what is loose of Down.
func looseDown(f api.Field, k int) int {
	down, _ := counter.Room(f.Counter, k)
	return down - hold.Sum(f.Holds, k)
}

// added is P7.2's Add, word for word; so are those that follow of their calls.
func added(f api.Field, k, n int) answer {
	if f.Kind != 1 {
		return none(api.ErrKind)
	}
	if n >= 0 {
		c, e := counter.Inc(f.Counter, k, n)
		f.Counter = c
		return told(f, e)
	}
	if n == math.MinInt || looseDown(f, k) < -n {
		return none(api.ErrRights)
	}
	c, e := counter.Dec(f.Counter, k, -n)
	f.Counter = c
	return told(f, e)
}

func handed(f api.Field, i, k, down, up int) answer {
	if f.Kind != 1 {
		return none(api.ErrKind)
	}
	if down > looseDown(f, i) {
		return none(api.ErrRights)
	}
	c, e := counter.Hand(f.Counter, i, k, down, up)
	f.Counter = c
	return told(f, e)
}

func reserved(f api.Field, k, amount, due int) answer {
	if f.Kind != 1 {
		return none(api.ErrKind)
	}
	if amount > looseDown(f, k) {
		return none(api.ErrRights)
	}
	l, n, e := hold.Reserve(f.Holds, k, amount, due)
	if e != api.OK {
		return none(e)
	}
	f.Holds = l
	return answer{f: f, n: n}
}

func ended(f api.Field, k, n, state int) answer {
	if f.Kind != 1 {
		return none(api.ErrKind)
	}
	l, amount, e := hold.End(f.Holds, k, n, state)
	if e != api.OK {
		return none(e)
	}
	f.Holds = l
	if state != api.Kept {
		return answer{f: f}
	}
	c, e := counter.Dec(f.Counter, k, amount)
	f.Counter = c
	return told(f, e)
}

func expired(f api.Field, k, now int) answer {
	if f.Kind != 1 {
		return answer{f: f}
	}
	l, n := hold.Expire(f.Holds, k, now)
	f.Holds = l
	return answer{f: f, n: n}
}

func written(f api.Field, k, value int) answer {
	if f.Kind != 2 {
		return none(api.ErrKind)
	}
	l, e := lock.Write(f.Lock, k, value)
	f.Lock = l
	return told(f, e)
}

func passed(f api.Field, k, to int) answer {
	if f.Kind != 2 {
		return none(api.ErrKind)
	}
	l, e := lock.Pass(f.Lock, k, to)
	f.Lock = l
	return told(f, e)
}

// near are edges, and numbers round what is loose of Down and Up in busy.
func near() []int {
	return append(edges(), 5, 6, -5, -6, 14, -14, -15, 20, 21, -20, 40, 41, -40, -41, 50, 51, 180, 181)
}

// P7.2: all edges, of fields of both kinds and of none, that may be and that may not.
func TestAdd(t *testing.T) {
	for _, f := range allFields() {
		for _, k := range edges() {
			for _, n := range near() {
				add(t, f, k, n)
			}
		}
	}
}

// P7.2: what can just be added and taken, and one more; which error comes first.
func TestAddAtTheEdge(t *testing.T) {
	broken := with(fresh(), func(f *api.Field) { f.Counter.Up.Given[0] = most - 1 })
	greater := with(fresh(), func(f *api.Field) { f.Counter.Down.Given[0] = most + 1 })
	minus := with(fresh(), func(f *api.Field) { f.Holds = []api.Hold{{Replica: 0, Number: 1, Amount: 6, State: api.Held}} })
	for _, c := range []struct {
		f    api.Field
		k, n int
		want api.Errno
	}{
		{fresh(), 0, 5, api.OK},
		{fresh(), 0, 6, api.ErrRights},
		{fresh(), 0, -5, api.OK},
		{fresh(), 0, -6, api.ErrRights},
		{fresh(), 1, 0, api.OK},
		{fresh(), 1, 1, api.ErrRights},
		{fresh(), 1, -1, api.ErrRights},
		{fresh(), 16, 0, api.ErrArg},
		{fresh(), 16, 1, api.ErrArg},
		{fresh(), 16, -1, api.ErrRights},
		{fresh(), -1, 1, api.ErrArg},
		{fresh(), -1, -1, api.ErrRights},
		{fresh(), 0, math.MaxInt, api.ErrRights},
		{fresh(), 0, math.MinInt, api.ErrRights},
		{fresh(), 0, -math.MaxInt, api.ErrRights},
		{busy(), 0, -14, api.OK},
		{busy(), 0, -15, api.ErrRights},
		{busy(), 2, -1, api.ErrRights},
		{busy(), 2, 0, api.OK},
		{busy(), 2, 50, api.OK},
		{busy(), 2, 51, api.ErrRights},
		{busy(), 15, -40, api.OK},
		{busy(), 15, -41, api.ErrRights},
		// Taking gives rights to go up, of which there can be too many.
		{broken, 0, -1, api.OK},
		{broken, 0, -2, api.ErrRange},
		{broken, 0, -6, api.ErrRights},
		// What can't be told is 0 of what is loose.
		{greater, 0, -1, api.ErrRights},
		{greater, 0, 1, api.ErrRange},
		// Less than nothing is loose: adding goes all the same.
		{minus, 0, -1, api.ErrRights},
		{minus, 0, math.MinInt, api.ErrRights},
		{minus, 0, 0, api.OK},
		{minus, 0, 5, api.OK},
		{locked(), 3, 1, api.ErrKind},
		{locked(), 16, -1, api.ErrKind},
		{api.Field{}, 16, -1, api.ErrKind},
		{with(fresh(), func(f *api.Field) { f.Kind = 3 }), 0, 1, api.ErrKind},
	} {
		if a := add(t, c.f, c.k, c.n); a.e != c.want {
			t.Errorf("Add(%d, %d) of %v: %d; want %d", c.k, c.n, c.f, a.e, c.want)
		}
	}
}

// P7.2: the value goes up and down by just that, and rights to go back come with it.
func TestAddChangesTheValue(t *testing.T) {
	for n := -14; n <= 180; n++ {
		a := add(t, busy(), 0, n)
		if v, e := field.View(a.f); a.e != api.OK || e != api.OK || v != 99+n {
			t.Errorf("Add %d: %d, %d, %d", n, v, e, a.e)
		}
		if down, up := field.Loose(a.f, 0); down != 14+n || up != 180-n {
			t.Errorf("Add %d: loose %d, %d", n, down, up)
		}
		if b := add(t, a.f, 0, -n); b.e != api.OK {
			t.Errorf("Add %d, and back: %d", n, b.e)
		}
	}
}

// P7.2: all edges as all four numbers of a few, and some of them of all fields.
func TestHand(t *testing.T) {
	for _, f := range []api.Field{fresh(), busy(), locked(), {}} {
		for _, i := range []int{-1, 0, 1, 2, 15, 16, math.MinInt} {
			for _, k := range []int{-1, 0, 1, 2, 15, 16, math.MaxInt} {
				for _, down := range near() {
					for _, up := range []int{-1, 0, 5, 6, 50, 51, 71, 72, 180, 181, most, most + 1, math.MaxInt, math.MinInt} {
						hand(t, f, i, k, down, up)
					}
				}
			}
		}
	}
	for _, f := range allFields() {
		for _, n := range edges() {
			hand(t, f, n, 1, 1, 1)
			hand(t, f, 0, n, 1, 1)
			hand(t, f, 0, 1, n, 1)
			hand(t, f, 0, 1, 1, n)
		}
	}
}

// P7.2: what can just be handed on, and one more; which error comes first.
func TestHandAtTheEdge(t *testing.T) {
	for _, c := range []struct {
		f              api.Field
		i, k, down, up int
		want           api.Errno
	}{
		{fresh(), 0, 1, 5, 5, api.OK},
		{fresh(), 0, 1, 6, 5, api.ErrRights},
		{fresh(), 0, 1, 5, 6, api.ErrRights},
		{fresh(), 0, 1, 0, 0, api.OK},
		{fresh(), 1, 0, 0, 0, api.OK},
		{fresh(), 1, 0, 1, 0, api.ErrRights},
		{fresh(), 0, 0, 1, 1, api.ErrArg},
		{fresh(), 0, 0, 6, 1, api.ErrRights},
		{fresh(), 0, 16, 5, 5, api.ErrArg},
		{fresh(), 0, 16, 6, 5, api.ErrRights},
		{fresh(), 16, 0, 0, 0, api.ErrArg},
		{fresh(), 16, 0, 1, 0, api.ErrRights},
		{fresh(), -1, 0, 1, 0, api.ErrRights},
		{fresh(), 0, 1, -1, 0, api.ErrArg},
		{fresh(), 0, 1, 0, -1, api.ErrArg},
		{fresh(), 0, 1, math.MinInt, 0, api.ErrArg},
		{fresh(), 0, 1, math.MaxInt, math.MinInt, api.ErrRights},
		{busy(), 0, 1, 14, 180, api.OK},
		{busy(), 0, 1, 15, 0, api.ErrRights},
		{busy(), 2, 0, 1, 0, api.ErrRights},
		{busy(), 2, 0, 0, 50, api.OK},
		{busy(), 2, 0, 0, 51, api.ErrRights},
		{busy(), 15, 2, 40, 71, api.OK},
		{busy(), 15, 2, 41, 0, api.ErrRights},
		{locked(), 3, 1, 0, 0, api.ErrKind},
		{locked(), 16, 1, 1, 0, api.ErrKind},
		{api.Field{}, 0, 1, 0, 0, api.ErrKind},
		{with(busy(), func(f *api.Field) { f.Kind = -1 }), 0, 1, 99, 0, api.ErrKind},
	} {
		if a := hand(t, c.f, c.i, c.k, c.down, c.up); a.e != c.want {
			t.Errorf("Hand(%d, %d, %d, %d) of %v: %d; want %d", c.i, c.k, c.down, c.up, c.f, a.e, c.want)
		}
	}
	a := hand(t, busy(), 0, 2, 14, 100)
	down, up := field.Loose(a.f, 0)
	less, more := field.Loose(a.f, 2)
	if v, _ := field.View(a.f); v != 99 || down != 0 || up != 80 || less != 14 || more != 150 {
		t.Errorf("Hand: %d; loose %d, %d; %d, %d", v, down, up, less, more)
	}
}

// P7.2: all edges, of all fields.
func TestReserve(t *testing.T) {
	for _, f := range allFields() {
		for _, k := range edges() {
			for _, n := range near() {
				reserve(t, f, k, n, 7)
				reserve(t, f, k, 0, n)
			}
		}
	}
}

// P7.2: what can just be reserved, and one more; the 16th, and one more; which error comes first.
func TestReserveAtTheEdge(t *testing.T) {
	fifteen := with(fresh(), func(f *api.Field) { f.Holds = held(15); f.Counter.Down.Given[9] = 5 })
	full := with(fresh(), func(f *api.Field) { f.Holds = held(16); f.Counter.Down.Given[9] = 5 })
	last := with(busy(), func(f *api.Field) { f.Holds[2].Number = most })
	minus := with(busy(), func(f *api.Field) { f.Holds[3].Amount = 21 })
	for _, c := range []struct {
		f              api.Field
		k, amount, due int
		number         int
		want           api.Errno
	}{
		{fresh(), 0, 5, 9, 1, api.OK},
		{fresh(), 0, 6, 9, 0, api.ErrRights},
		{fresh(), 0, 6, -1, 0, api.ErrRights},
		{fresh(), 0, 5, -1, 0, api.ErrArg},
		{fresh(), 0, 5, 0, 1, api.OK},
		{fresh(), 0, 5, most, 1, api.OK},
		{fresh(), 0, 5, most + 1, 0, api.ErrArg},
		{fresh(), 0, -1, 9, 0, api.ErrArg},
		{fresh(), 0, math.MinInt, 9, 0, api.ErrArg},
		{fresh(), 0, math.MaxInt, 9, 0, api.ErrRights},
		{fresh(), 1, 0, 9, 1, api.OK},
		{fresh(), 1, 1, 9, 0, api.ErrRights},
		{fresh(), 16, 0, 9, 0, api.ErrArg},
		{fresh(), 16, 1, 9, 0, api.ErrRights},
		{busy(), 0, 14, 9, 8, api.OK},
		{busy(), 0, 15, 9, 0, api.ErrRights},
		{busy(), 2, 0, 9, 2, api.OK},
		{busy(), 2, 1, 9, 0, api.ErrRights},
		{busy(), 15, 40, 9, 2, api.OK},
		{busy(), 15, 41, 9, 0, api.ErrRights},
		{busy(), 1, 0, 9, 1, api.OK},
		{minus, 2, 0, 9, 0, api.ErrRights},
		{minus, 2, -1, 9, 0, api.ErrArg},
		{last, 0, 1, 9, 0, api.ErrArg},
		{last, 0, 15, 9, 0, api.ErrRights},
		{fifteen, 9, 5, 9, 1, api.OK},
		{fifteen, 9, 6, 9, 0, api.ErrRights},
		{full, 9, 5, 9, 0, api.ErrFull},
		{full, 9, 6, 9, 0, api.ErrRights},
		{full, 9, 5, -1, 0, api.ErrArg},
		{with(fresh(), func(f *api.Field) { f.Holds = held(17) }), 0, 5, 9, 0, api.ErrArg},
		{with(fresh(), func(f *api.Field) { f.Holds = held(17) }), 0, 6, 9, 0, api.ErrRights},
		{locked(), 3, 0, 0, 0, api.ErrKind},
		{locked(), 16, 1, -1, 0, api.ErrKind},
		{api.Field{}, 0, 0, 0, 0, api.ErrKind},
		{with(fresh(), func(f *api.Field) { f.Kind = 4 }), 0, 1, 1, 0, api.ErrKind},
	} {
		if a := reserve(t, c.f, c.k, c.amount, c.due); a.e != c.want || a.n != c.number {
			t.Errorf("Reserve(%d, %d, %d) of %v: %d, %d; want %d, %d", c.k, c.amount, c.due, c.f, a.n, a.e, c.number, c.want)
		}
	}
	a := reserve(t, busy(), 0, 13, 9)
	h, is := hold.Find(a.f.Holds, 0, 8)
	if v, _ := field.View(a.f); v != 99 || !is || h != (api.Hold{Replica: 0, Number: 8, Amount: 13, Due: 9, State: api.Held}) || looseDown(a.f, 0) != 1 {
		t.Errorf("Reserve: %d, %v, %v", v, h, is)
	}
}

// P7.2: all edges, of all fields.
func TestEnd(t *testing.T) {
	for _, f := range allFields() {
		for _, k := range edges() {
			for _, n := range append(edges(), 7) {
				end(t, f, k, n, api.Kept)
				end(t, f, k, n, api.Gone)
			}
		}
		for _, state := range edges() {
			end(t, f, 0, 1, state)
			end(t, f, 2, 1, state)
			end(t, f, 15, 1, state)
		}
	}
}

// P7.2: one that is there, one that is not, one that has ended, in both states; of one that is Kept the amount is taken, and of one that is Gone it is loose again.
func TestEndAtTheEdge(t *testing.T) {
	poor := with(busy(), func(f *api.Field) { f.Holds[0].Amount = 30 })
	just := with(busy(), func(f *api.Field) { f.Holds[0].Amount = 29 })
	wide := with(busy(), func(f *api.Field) { f.Counter.Up.Given[2] = most - 3 })
	for _, c := range []struct {
		f           api.Field
		k, n, state int
		value       int
		want        api.Errno
	}{
		{busy(), 0, 1, api.Kept, 95, api.OK},
		{busy(), 0, 1, api.Gone, 99, api.OK},
		{busy(), 0, 7, api.Kept, 88, api.OK},
		{busy(), 2, 1, api.Kept, 79, api.OK},
		{busy(), 2, 1, api.Gone, 99, api.OK},
		{busy(), 0, 2, api.Kept, 0, api.ErrState},
		{busy(), 0, 2, api.Gone, 0, api.ErrState},
		{busy(), 15, 1, api.Kept, 0, api.ErrState},
		{busy(), 15, 1, api.Gone, 0, api.ErrState},
		{busy(), 0, 3, api.Kept, 0, api.ErrNone},
		{busy(), 0, 0, api.Gone, 0, api.ErrNone},
		{busy(), 1, 1, api.Gone, 0, api.ErrNone},
		{busy(), 16, 1, api.Kept, 0, api.ErrNone},
		{busy(), 0, 1, api.Held, 0, api.ErrArg},
		{busy(), 0, 1, 4, 0, api.ErrArg},
		{busy(), 0, 3, 0, 0, api.ErrArg},
		{busy(), 0, 2, -1, 0, api.ErrArg},
		{fresh(), 0, 1, api.Kept, 0, api.ErrNone},
		{just, 0, 1, api.Kept, 70, api.OK},
		{poor, 0, 1, api.Kept, 0, api.ErrRights},
		{poor, 0, 1, api.Gone, 99, api.OK},
		{poor, 0, 2, api.Kept, 0, api.ErrState},
		{wide, 2, 1, api.Kept, 0, api.ErrRange},
		{wide, 2, 1, api.Gone, 99, api.OK},
		{with(busy(), func(f *api.Field) { slices.Reverse(f.Holds) }), 0, 1, api.Gone, 0, api.ErrArg},
		{locked(), 3, 1, api.Gone, 0, api.ErrKind},
		{locked(), 3, 1, 0, 0, api.ErrKind},
		{with(locked(), func(f *api.Field) { f.Holds = busy().Holds }), 0, 1, api.Gone, 0, api.ErrKind},
		{with(busy(), func(f *api.Field) { f.Kind = 0 }), 0, 1, api.Gone, 0, api.ErrKind},
		{api.Field{}, 0, 1, api.Gone, 0, api.ErrKind},
	} {
		a := end(t, c.f, c.k, c.n, c.state)
		if v, _ := field.View(a.f); a.e != c.want || v != c.value {
			t.Errorf("End(%d, %d, %d) of %v: %d, %d; want %d, %d", c.k, c.n, c.state, c.f, v, a.e, c.value, c.want)
		}
		if h, _ := hold.Find(a.f.Holds, c.k, c.n); a.e == api.OK && h.State != c.state {
			t.Errorf("End(%d, %d, %d) of %v: %v", c.k, c.n, c.state, c.f, h)
		}
	}
}

// P7.2: what is loose after an end: as much as before if it is Kept, as much more as was held if it is Gone; ending it again does not go.
func TestEndAndWhatIsLoose(t *testing.T) {
	for state, want := range map[int]int{api.Kept: 14, api.Gone: 25} {
		a := end(t, busy(), 0, 7, state)
		if down, _ := field.Loose(a.f, 0); down != want {
			t.Errorf("End as %d: loose %d", state, down)
		}
		for _, again := range []int{api.Kept, api.Gone} {
			if b := end(t, a.f, 0, 7, again); b.e != api.ErrState {
				t.Errorf("End as %d, then as %d: %d", state, again, b.e)
			}
		}
	}
}

// P7.2: all edges, of all fields.
func TestExpire(t *testing.T) {
	for _, f := range allFields() {
		for _, k := range edges() {
			for _, now := range append(edges(), 5, 6, 7) {
				expire(t, f, k, now)
			}
		}
	}
}

// P7.2: just over, and just not; a field that is no counter as it is.
func TestExpireAtTheEdge(t *testing.T) {
	for _, c := range []struct {
		k, now, gone, loose int
	}{
		{0, 5, 0, 14}, {0, 6, 1, 18}, {0, most, 1, 18}, {0, most + 1, 2, 29}, {0, math.MaxInt, 2, 29}, {0, math.MinInt, 0, 14}, {0, -1, 0, 14},
		{2, 6, 0, 0}, {2, 7, 1, 20}, {15, math.MaxInt, 0, 40}, {1, math.MaxInt, 0, 0}, {16, math.MaxInt, 0, 0}, {-1, math.MaxInt, 0, 0},
	} {
		a := expire(t, busy(), c.k, c.now)
		if down, _ := field.Loose(a.f, c.k); a.n != c.gone || down != c.loose {
			t.Errorf("Expire(%d, %d): %d, loose %d", c.k, c.now, a.n, down)
		}
		if v, _ := field.View(a.f); v != 99 {
			t.Errorf("Expire(%d, %d): value %d", c.k, c.now, v)
		}
	}
	for _, kind := range []int{api.IsLock, 0, 3} {
		f := with(busy(), func(f *api.Field) { f.Kind = kind })
		if a := expire(t, f, 0, math.MaxInt); a.n != 0 || !alike(a.f, f) {
			t.Errorf("Expire of kind %d: %v", kind, a)
		}
	}
}

// P7.2: all edges, of all fields.
func TestWriteAndPass(t *testing.T) {
	for _, f := range allFields() {
		for _, k := range edges() {
			for _, n := range edges() {
				write(t, f, k, n)
				pass(t, f, k, n)
			}
		}
	}
}

// P7.2: lock's own answers, and its errors in its order.
func TestWriteAndPassAtTheEdge(t *testing.T) {
	worn := with(locked(), func(f *api.Field) { f.Lock.Seq, f.Lock.Ver = most, most })
	odd := with(busy(), func(f *api.Field) { f.Lock = locked().Lock })
	for _, c := range []struct {
		f     api.Field
		k, n  int
		write api.Errno
		pass  api.Errno
	}{
		{locked(), 3, 5, api.OK, api.OK},
		{locked(), 3, most, api.OK, api.ErrArg},
		{locked(), 3, most + 1, api.ErrRange, api.ErrArg},
		{locked(), 3, -1, api.OK, api.ErrArg},
		{locked(), 3, 15, api.OK, api.OK},
		{locked(), 3, 16, api.OK, api.ErrArg},
		{locked(), 2, most + 1, api.ErrHolder, api.ErrHolder},
		{locked(), 16, 5, api.ErrHolder, api.ErrHolder},
		{worn, 3, 5, api.ErrRange, api.ErrRange},
		{worn, 3, 16, api.ErrRange, api.ErrArg},
		{fresh(), 0, 5, api.ErrKind, api.ErrKind},
		{fresh(), 1, most + 1, api.ErrKind, api.ErrKind},
		{odd, 3, 5, api.ErrKind, api.ErrKind},
		{with(locked(), func(f *api.Field) { f.Kind = 3 }), 3, 5, api.ErrKind, api.ErrKind},
		{api.Field{}, 0, 0, api.ErrKind, api.ErrKind},
	} {
		w, p := write(t, c.f, c.k, c.n), pass(t, c.f, c.k, c.n)
		if w.e != c.write || p.e != c.pass {
			t.Errorf("Write, Pass(%d, %d) of %v: %d, %d; want %d, %d", c.k, c.n, c.f, w.e, p.e, c.write, c.pass)
		}
	}
	w := write(t, locked(), 3, 77)
	p := pass(t, w.f, 3, 0)
	if w.f.Lock != (api.Lock{Seq: 4, Ver: 7, Holder: 3, Value: 77}) || p.f.Lock != (api.Lock{Seq: 5, Ver: 0, Holder: 0, Value: 77}) {
		t.Errorf("Write, Pass: %v, %v", w.f.Lock, p.f.Lock)
	}
	if a := write(t, p.f, 3, 1); a.e != api.ErrHolder {
		t.Error("Write by whoever held it:", a.e)
	}
}

// P7.2: what a call does not speak of stays: name, epoch, and the other parts, those of a field that may not be too.
func TestTheOtherPartsStay(t *testing.T) {
	odd := with(busy(), func(f *api.Field) { f.Name, f.Epoch, f.Lock = "no name that may be", -5, api.Lock{Holder: 99} })
	for i, a := range []answer{add(t, odd, 0, 1), add(t, odd, 0, -1), hand(t, odd, 0, 1, 1, 1), reserve(t, odd, 0, 1, 1), end(t, odd, 0, 1, api.Kept), end(t, odd, 0, 1, api.Gone), expire(t, odd, 0, most)} {
		if a.e != api.OK || a.f.Name != odd.Name || a.f.Epoch != -5 || a.f.Lock != odd.Lock || a.f.Kind != 1 {
			t.Errorf("call %d: %v", i, a)
		}
	}
	odd = with(odd, func(f *api.Field) { f.Kind, f.Lock.Holder = 2, 3 })
	for i, a := range []answer{write(t, odd, 3, 1), pass(t, odd, 3, 4)} {
		if a.e != api.OK || a.f.Name != odd.Name || a.f.Epoch != -5 || a.f.Counter != odd.Counter || !slices.Equal(a.f.Holds, odd.Holds) {
			t.Errorf("call %d of a lock: %v", i, a)
		}
	}
}

// P7.2: the chapter's example, and the document's example 1.
func TestExample(t *testing.T) {
	f, e := field.Counter("a", 5, 0, 10)
	if e != api.OK {
		t.Fatal("Counter:", e)
	}
	a := reserve(t, f, 0, 3, 9)
	if b := add(t, a.f, 0, -3); a.e != api.OK || a.n != 1 || b.e != api.ErrRights {
		t.Error("Reserve 3, Add -3:", a.n, a.e, b.e)
	}
	b := add(t, a.f, 0, -2)
	c := end(t, b.f, 0, 1, api.Kept)
	if v, g := field.View(c.f); b.e != api.OK || c.e != api.OK || v != 0 || g != api.OK {
		t.Error("Add -2, End Kept:", b.e, c.e, v, g)
	}
	d := add(t, f, 0, -2)
	if g := add(t, f, 1, -1); d.e != api.OK || g.e != api.ErrRights {
		t.Error("replica 0 takes 2, replica 1 takes 1:", d.e, g.e)
	}
}
