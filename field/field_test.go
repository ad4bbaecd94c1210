package field_test

import (
	"math"
	"slices"
	"strings"
	"testing"

	"usufruct/api"
	"usufruct/counter"
	"usufruct/field"
	"usufruct/lock"
)

const most = 1 << 40

// edges: ordinary numbers, the edges of what a replica, a number, an amount, a kind and a state may be, one beyond each, and the outermost ints.
func edges() []int {
	return []int{-1, 0, 1, 2, 3, 4, 15, 16, most - 1, most, most + 1, -most, -most - 1, math.MaxInt, math.MinInt}
}

// fresh is a new counter of 5, from 0 to 10.
func fresh() api.Field {
	f := api.Field{Name: "a", Kind: api.IsCounter}
	f.Counter = api.Counter{Init: 5, Low: 0, High: 10}
	f.Counter.Down.Given[0] = 5
	f.Counter.Up.Given[0] = 5
	return f
}

// busy is a counter of 100, from 10 to 400, that replicas 0, 2 and 15 have used, with holds of them in all states. Of Down 29, 20 and 40 are free, of Up 180, 50 and 71; of Down 15 are held by 0, and all 20 by 2.
func busy() api.Field {
	f := api.Field{Name: "busy-1~!", Kind: api.IsCounter, Epoch: 7}
	f.Counter = api.Counter{Init: 100, Low: 10, High: 400}
	d, u := &f.Counter.Down, &f.Counter.Up
	d.Given, u.Given = api.Vec{0: 90, 2: 10}, api.Vec{0: 300, 15: 11}
	d.Used, u.Used = api.Vec{15: 11}, api.Vec{2: 10}
	d.Moved[0], u.Moved[0] = api.Vec{2: 10, 15: 51}, api.Vec{2: 60, 15: 60}
	f.Holds = []api.Hold{
		{Replica: 0, Number: 1, Amount: 4, Due: 5, State: api.Held},
		{Replica: 0, Number: 2, Amount: 300, Due: 5, State: api.Gone},
		{Replica: 0, Number: 7, Amount: 11, Due: most, State: api.Held},
		{Replica: 2, Number: 1, Amount: 20, Due: 6, State: api.Held},
		{Replica: 15, Number: 1, Amount: 11, Due: 2, State: api.Kept},
	}
	return f
}

// locked is a lock of replica 3, that was passed on and written.
func locked() api.Field {
	return api.Field{Name: "l", Kind: api.IsLock, Epoch: 2, Lock: api.Lock{Seq: 4, Ver: 6, Holder: 3, Value: -8}}
}

// held is n holds that may be, the last ones of replica 5, and none of them of much.
func held(n int) []api.Hold {
	var l []api.Hold
	for i := range n {
		l = append(l, api.Hold{Replica: max(0, 5-n+1+i), Number: i + 1, Amount: i % 2, Due: 10 * i, State: 1 + i%3})
	}
	return l
}

// with is f, changed.
func with(f api.Field, change func(*api.Field)) api.Field {
	change(&f)
	return f
}

// rightFields may be.
func rightFields() []api.Field {
	return []api.Field{
		fresh(), busy(), locked(),
		with(fresh(), func(f *api.Field) { f.Holds = []api.Hold{} }),
		with(fresh(), func(f *api.Field) { f.Holds = held(15) }),
		with(fresh(), func(f *api.Field) { f.Holds = held(16) }),
		with(fresh(), func(f *api.Field) { f.Epoch = most }),
		with(fresh(), func(f *api.Field) { f.Counter, _ = counter.New(most, 0, most) }),
		with(fresh(), func(f *api.Field) { f.Counter, _ = counter.New(-most, -most, 0) }),
		with(fresh(), func(f *api.Field) { f.Counter = api.Counter{} }),
		// More is held than anybody has: no replica does so, but each part may be.
		with(busy(), func(f *api.Field) { f.Holds[0].Amount = most }),
		with(locked(), func(f *api.Field) { f.Lock = api.Lock{} }),
		with(locked(), func(f *api.Field) { f.Holds = []api.Hold{} }),
		with(locked(), func(f *api.Field) { f.Lock = api.Lock{Seq: most, Ver: most, Holder: 15, Value: most} }),
	}
}

// strangers are of no kind, whatever else they have.
func strangers() []api.Field {
	var all []api.Field
	for _, kind := range []int{0, 3, -1, -2, most, math.MaxInt, math.MinInt} {
		for _, f := range []api.Field{fresh(), busy(), locked()} {
			f.Kind = kind
			all = append(all, f)
		}
	}
	return append(all, api.Field{}, api.Field{Name: "a"})
}

// wrongFields may not be, each by one thing alone.
func wrongFields() []api.Field {
	all := strangers()
	for _, f := range []api.Field{fresh(), busy(), locked()} {
		for _, name := range []string{"", "ninebytes", "a b", "\x7f", "\xff", "é"} {
			all = append(all, with(f, func(f *api.Field) { f.Name = name }))
		}
		for _, epoch := range []int{-1, most + 1, -most, math.MaxInt, math.MinInt} {
			all = append(all, with(f, func(f *api.Field) { f.Epoch = epoch }))
		}
	}
	return append(all,
		with(fresh(), func(f *api.Field) { f.Kind = api.IsLock }),
		with(busy(), func(f *api.Field) { f.Kind = api.IsLock }),
		with(locked(), func(f *api.Field) { f.Kind = api.IsCounter }),
		with(fresh(), func(f *api.Field) { f.Lock.Seq = 1 }),
		with(fresh(), func(f *api.Field) { f.Lock.Ver = 1 }),
		with(fresh(), func(f *api.Field) { f.Lock.Holder = 15 }),
		with(busy(), func(f *api.Field) { f.Lock.Value = -1 }),
		with(fresh(), func(f *api.Field) { f.Counter.Init = 11 }),
		with(fresh(), func(f *api.Field) { f.Counter.High++ }),
		with(fresh(), func(f *api.Field) { f.Counter.Down.Given[15] = 1 }),
		with(busy(), func(f *api.Field) { f.Counter.Up.Moved[3][4] = -1 }),
		with(fresh(), func(f *api.Field) { f.Counter.Down.Given[0] = math.MinInt }),
		with(fresh(), func(f *api.Field) { f.Counter.Down.Moved[1][0] = math.MaxInt }),
		with(fresh(), func(f *api.Field) { f.Counter.Down.Used[0] = most }),
		with(fresh(), func(f *api.Field) { f.Holds = held(17) }),
		with(fresh(), func(f *api.Field) { f.Holds = slices.Repeat(held(1), 2) }),
		with(busy(), func(f *api.Field) { f.Holds[0].Amount = -1 }),
		with(busy(), func(f *api.Field) { f.Holds[1].State = 4 }),
		with(busy(), func(f *api.Field) { slices.Reverse(f.Holds) }),
		with(locked(), func(f *api.Field) { f.Holds = held(1) }),
		with(locked(), func(f *api.Field) { f.Holds = held(17) }),
		with(locked(), func(f *api.Field) { f.Counter = fresh().Counter }),
		with(locked(), func(f *api.Field) { f.Counter.High = 1 }),
		with(locked(), func(f *api.Field) { f.Counter.Up.Moved[15][15] = 1 }),
		with(locked(), func(f *api.Field) { f.Lock.Holder = 16 }),
		with(locked(), func(f *api.Field) { f.Lock.Holder = -1 }),
		with(locked(), func(f *api.Field) { f.Lock.Seq = -1 }),
		with(locked(), func(f *api.Field) { f.Lock.Ver = most + 1 }),
		with(locked(), func(f *api.Field) { f.Lock.Value = most + 1 }),
	)
}

func allFields() []api.Field {
	return append(rightFields(), wrongFields()...)
}

// alike holds each part of two fields against that of the other one.
func alike(a, b api.Field) bool {
	return a.Name == b.Name && a.Kind == b.Kind && a.Epoch == b.Epoch && a.Counter == b.Counter && a.Lock == b.Lock && slices.Equal(a.Holds, b.Holds)
}

// guard stands in the room behind a guarded list.
func guard() []api.Hold {
	return slices.Repeat([]api.Hold{{Replica: 9, Number: 9, Amount: 9, Due: 9, State: api.Held}}, 3)
}

// guarded is f with room behind the end of its list, in which something stands.
func guarded(f api.Field) api.Field {
	f.Holds = append(slices.Clone(f.Holds), guard()...)[:len(f.Holds)]
	return f
}

// untouched tells whether f, and the room behind its list, are as guarded made them.
func untouched(f, was api.Field) bool {
	n := len(f.Holds)
	return alike(f, was) && slices.Equal(f.Holds[:n+3][n:], guard())
}

// scribble writes over a field's list, its spare room too.
func scribble(f api.Field) {
	l := f.Holds[:cap(f.Holds)]
	for i := range l {
		l[i] = api.Hold{Replica: -77, Number: -77, Amount: -77, Due: -77, State: -77}
	}
}

// P7.1: 0, 1, 8 and 9 bytes, and each byte at each place.
func TestName(t *testing.T) {
	for n := range 300 {
		if got := field.Name(strings.Repeat("x", n)); got != (n >= 1 && n <= 8) {
			t.Errorf("Name of %d bytes: %v", n, got)
		}
	}
	for c := range 256 {
		want := c >= 33 && c <= 126
		if got := field.Name(string([]byte{byte(c)})); got != want {
			t.Errorf("Name of byte %d: %v", c, got)
		}
		for i := range 8 {
			name := []byte("abcdefgh")
			name[i] = byte(c)
			if got := field.Name(string(name)); got != want {
				t.Errorf("Name of byte %d at %d: %v", c, i, got)
			}
		}
	}
	for name, want := range map[string]bool{"!": true, "~": true, "!~!~!~!~": true, " ": false, "a ": false, "é": false, "ab\n": false, "\x00": false, "日本": false} {
		if field.Name(name) != want {
			t.Errorf("Name(%q): %v", name, !want)
		}
	}
}

// P7.1: fields of both kinds, with holds and without; and others, each by one thing alone.
func TestRight(t *testing.T) {
	for i, f := range rightFields() {
		if !field.Right(f) {
			t.Errorf("Right of field %d, %v", i, f)
		}
	}
	for i, f := range wrongFields() {
		if field.Right(f) {
			t.Errorf("Right of wrong field %d, %v", i, f)
		}
	}
}

// P7.1: all edges as epochs, and as kinds.
func TestRightOfEpochAndKind(t *testing.T) {
	for _, n := range edges() {
		for _, f := range []api.Field{fresh(), busy(), locked()} {
			is := f.Kind
			f.Epoch = n
			if got := field.Right(f); got != (n >= 0 && n <= most) {
				t.Errorf("Right of epoch %d: %v", n, got)
			}
			f.Epoch, f.Kind = 1, n
			if got := field.Right(f); got != (n == is) {
				t.Errorf("Right of kind %d: %v", n, got)
			}
		}
	}
}

// others are fields that differ from f in one thing each.
func others(f api.Field) []api.Field {
	changes := []func(*api.Field){
		func(f *api.Field) { f.Name += "x" },
		func(f *api.Field) { f.Name = strings.ToUpper(f.Name[:1]) + f.Name[1:] },
		func(f *api.Field) { f.Kind++ },
		func(f *api.Field) { f.Epoch++ },
		func(f *api.Field) { f.Counter.Init-- },
		func(f *api.Field) { f.Counter.Low-- },
		func(f *api.Field) { f.Counter.High++ },
		func(f *api.Field) { f.Counter.Down.Given[15]++ },
		func(f *api.Field) { f.Counter.Down.Used[0]++ },
		func(f *api.Field) { f.Counter.Down.Moved[7][8]++ },
		func(f *api.Field) { f.Counter.Up.Given[1]++ },
		func(f *api.Field) { f.Counter.Up.Used[14]++ },
		func(f *api.Field) { f.Counter.Up.Moved[15][0]++ },
		func(f *api.Field) { f.Lock.Seq++ },
		func(f *api.Field) { f.Lock.Ver++ },
		func(f *api.Field) { f.Lock.Holder++ },
		func(f *api.Field) { f.Lock.Value++ },
		func(f *api.Field) { f.Holds = append(slices.Clone(f.Holds), api.Hold{}) },
		func(f *api.Field) { f.Holds = append(slices.Clone(f.Holds), guard()[0]) },
	}
	var all []api.Field
	for _, change := range changes {
		all = append(all, with(f, change))
	}
	for i := range f.Holds {
		for p := range 5 {
			all = append(all, with(f, func(f *api.Field) {
				f.Holds = slices.Clone(f.Holds)
				h := &f.Holds[i]
				*[]*int{&h.Replica, &h.Number, &h.Amount, &h.Due, &h.State}[p]++
			}))
		}
		all = append(all, with(f, func(f *api.Field) { f.Holds = slices.Delete(slices.Clone(f.Holds), i, i+1) }))
	}
	if len(f.Holds) > 1 {
		all = append(all, with(f, func(f *api.Field) {
			f.Holds = slices.Clone(f.Holds)
			slices.Reverse(f.Holds)
		}))
	}
	return all
}

// P7.1: each number that a field has counts, of holds one by one; nil and empty lists are the same.
func TestSame(t *testing.T) {
	for i, f := range allFields() {
		if !field.Same(f, f) || !field.Same(f, guarded(f)) {
			t.Errorf("Same of field %d with itself", i)
		}
	}
	for i, f := range rightFields() {
		for j, g := range others(f) {
			if field.Same(f, g) || field.Same(g, f) {
				t.Errorf("Same of field %d with another one, %d", i, j)
			}
		}
	}
	for _, f := range []api.Field{fresh(), locked(), {}} {
		g := with(f, func(f *api.Field) { f.Holds = []api.Hold{} })
		if !field.Same(f, g) || !field.Same(g, f) {
			t.Error("Same of nil and empty holds")
		}
	}
}

// names are some that may be, and some that may not.
func names() map[string]bool {
	return map[string]bool{"a": true, "!": true, "~~~~~~~~": true, "12345678": true, "": false, "123456789": false, "a\tb": false, "a b": false, "\x7f": false}
}

// P7.1: all edges as all three numbers; a name that may not be comes first.
func TestCounter(t *testing.T) {
	made := 0
	for name, may := range names() {
		for _, init := range edges() {
			for _, low := range edges() {
				for _, high := range edges() {
					c, e := counter.New(init, low, high)
					want := api.Field{Name: name, Kind: 1, Counter: c}
					if !may {
						e = api.ErrArg
					}
					if e != api.OK {
						want = api.Field{}
					} else {
						made++
					}
					if f, g := field.Counter(name, init, low, high); !alike(f, want) || g != e || g == api.OK && !field.Right(f) {
						t.Fatalf("Counter(%q, %d, %d, %d): %v, %d", name, init, low, high, f, g)
					}
				}
			}
		}
	}
	if made < 500 {
		t.Error("counters that were made:", made)
	}
	if f, e := field.Counter("a", 5, 0, 10); !alike(f, fresh()) || e != api.OK {
		t.Error("Counter of 5:", f, e)
	}
}

// P7.1: as TestCounter.
func TestLock(t *testing.T) {
	for name, may := range names() {
		for _, holder := range edges() {
			for _, value := range edges() {
				e := api.OK
				switch {
				case !may || holder < 0 || holder > 15:
					e = api.ErrArg
				case value < -most || value > most:
					e = api.ErrRange
				}
				want := api.Field{}
				if e == api.OK {
					want = api.Field{Name: name, Kind: 2, Lock: api.Lock{Holder: holder, Value: value}}
				}
				if f, g := field.Lock(name, holder, value); !alike(f, want) || g != e || g == api.OK && !field.Right(f) {
					t.Fatalf("Lock(%q, %d, %d): %v, %d", name, holder, value, f, g)
				}
			}
		}
	}
}

// P7.1: of a counter its own Value, with its error; of a lock what stands there; else ErrKind.
func TestView(t *testing.T) {
	for i, f := range allFields() {
		want, e := 0, api.ErrKind
		switch f.Kind {
		case 1:
			want, e = counter.Value(f.Counter)
		case 2:
			want, e = f.Lock.Value, api.OK
		}
		if n, g := field.View(f); n != want || g != e {
			t.Errorf("View of field %d: %d, %d; want %d, %d", i, n, g, want, e)
		}
	}
	for _, c := range []struct {
		f    api.Field
		want int
		e    api.Errno
	}{
		{fresh(), 5, api.OK},
		{busy(), 99, api.OK},
		{locked(), -8, api.OK},
		{with(locked(), func(f *api.Field) { f.Counter = fresh().Counter }), -8, api.OK},
		{with(fresh(), func(f *api.Field) { f.Lock = locked().Lock }), 5, api.OK},
		{with(fresh(), func(f *api.Field) { f.Counter.Up.Used[3] = most }), 0, api.ErrRange},
		{api.Field{Kind: 3, Lock: locked().Lock, Counter: fresh().Counter}, 0, api.ErrKind},
		{api.Field{}, 0, api.ErrKind},
	} {
		if n, e := field.View(c.f); n != c.want || e != c.e {
			t.Errorf("View of %v: %d, %d; want %d, %d", c.f, n, e, c.want, c.e)
		}
	}
}

// free is what is free at replica k, by hand; none of the sums that this is asked about is too great.
func free(r api.Rights, k int) int {
	n := r.Given[k] - r.Used[k]
	for i := range 16 {
		n += r.Moved[i][k] - r.Moved[k][i]
	}
	return n
}

// P7.1: what is free of Down, less what is Held; what is free of Up.
func TestLoose(t *testing.T) {
	for _, f := range []api.Field{fresh(), busy(), with(fresh(), func(f *api.Field) { f.Holds = held(16) })} {
		for k := range 16 {
			down, up := free(f.Counter.Down, k), free(f.Counter.Up, k)
			for _, h := range f.Holds {
				if h.Replica == k && h.State == api.Held {
					down -= h.Amount
				}
			}
			if d, u := field.Loose(f, k); d != down || u != up {
				t.Errorf("Loose at %d of %v: %d, %d; want %d, %d", k, f, d, u, down, up)
			}
		}
	}
	for k, want := range map[int][2]int{0: {14, 180}, 1: {0, 0}, 2: {0, 50}, 15: {40, 71}, 16: {0, 0}, -1: {0, 0}, most: {0, 0}, math.MaxInt: {0, 0}, math.MinInt: {0, 0}} {
		if d, u := field.Loose(busy(), k); d != want[0] || u != want[1] {
			t.Errorf("Loose at %d: %d, %d; want %v", k, d, u, want)
		}
	}
}

// P7.1: held more than there is, or than a sum of holds counts; great numbers; holds that may not be.
func TestLooseAtTheEdge(t *testing.T) {
	two := []api.Hold{{Replica: 0, Number: 1, Amount: most, State: api.Held}, {Replica: 0, Number: 2, Amount: most, State: api.Held}}
	for _, c := range []struct {
		f        api.Field
		down, up int
	}{
		{with(fresh(), func(f *api.Field) { f.Holds = two }), 5 - most, 5},
		{with(fresh(), func(f *api.Field) { f.Holds = two[1:] }), 5 - most, 5},
		{with(fresh(), func(f *api.Field) { f.Counter, _ = counter.New(most, 0, most) }), most, 0},
		{with(fresh(), func(f *api.Field) { f.Counter, _ = counter.New(most, 0, most); f.Holds = two }), 0, 0},
		{with(fresh(), func(f *api.Field) { f.Counter, _ = counter.New(0, 0, most) }), 0, most},
		{with(fresh(), func(f *api.Field) { f.Counter.Down.Used[0] = most; f.Holds = two }), 5 - 2*most, 5},
		{with(fresh(), func(f *api.Field) { f.Counter.Down.Given[0] = most + 1; f.Holds = two }), -most, 5},
		{with(fresh(), func(f *api.Field) { f.Counter.Up.Given[0] = most + 1 }), 5, 0},
		{with(fresh(), func(f *api.Field) { f.Holds = slices.Repeat(two, 2) }), 5, 5},
	} {
		if d, u := field.Loose(c.f, 0); d != c.down || u != c.up {
			t.Errorf("Loose of %v: %d, %d; want %d, %d", c.f, d, u, c.down, c.up)
		}
	}
}

// P7.1: nothing is loose in a field that is no counter, whatever else it has.
func TestLooseOfNoCounter(t *testing.T) {
	for _, f := range allFields() {
		for _, k := range edges() {
			d, u := field.Loose(f, k)
			if f.Kind != api.IsCounter && (d != 0 || u != 0) {
				t.Errorf("Loose at %d of %v: %d, %d", k, f, d, u)
			}
			if _, up := counter.Room(f.Counter, k); f.Kind == api.IsCounter && u != up {
				t.Errorf("Loose of Up at %d of %v: %d", k, f, u)
			}
		}
	}
}

// P7.1, P7.2: the fields of the tests are what their words say.
func TestFieldsOfTheTests(t *testing.T) {
	if !counter.Right(busy().Counter) || !lock.Right(locked().Lock) {
		t.Error("a counter, or a lock, that may not be")
	}
}
