package num_test

import (
	"errors"
	"math"
	"math/big"
	"runtime"
	"slices"
	"testing"

	"usufruct/api"
	"usufruct/num"
)

const most = 1 << 40

// edges: ordinary numbers, both edges and one beyond each, powers whose products wrap round to what may be, and the outermost ints.
func edges() []int {
	l := []int{0, math.MaxInt, math.MinInt, math.MaxInt - 1, math.MinInt + 1, math.MinInt + most, math.MaxInt - most}
	for _, n := range []int{1, 2, 3, 7, 1000, 1<<20 - 1, 1 << 20, 1<<20 + 1, 1 << 24, 1<<31 - 1, 1 << 32, 1<<32 + 1, 1 << 39, 1<<39 + 1, most - 1, most, most + 1, 1 << 41, 1 << 62, 1<<62 + 1} {
		l = append(l, n, -n)
	}
	return l
}

// mayBe is P1.1's rule in numbers that have no end.
func mayBe(n *big.Int) bool {
	return n.CmpAbs(big.NewInt(1<<40)) <= 0
}

// expect is what Add, Sub and Mul must tell of two numbers.
func expect(a, b int, do func(z, x, y *big.Int) *big.Int) (int, api.Errno) {
	x, y := big.NewInt(int64(a)), big.NewInt(int64(b))
	z := do(new(big.Int), x, y)
	if !mayBe(x) || !mayBe(y) || !mayBe(z) {
		return 0, api.ErrRange
	}
	return int(z.Int64()), api.OK
}

// P1.1
func TestIs(t *testing.T) {
	for _, c := range []struct {
		n    int
		want bool
	}{
		{0, true}, {1, true}, {-1, true}, {12345, true},
		{1099511627776, true}, {-1099511627776, true}, {1099511627775, true}, {-1099511627775, true},
		{1099511627777, false}, {-1099511627777, false},
		{math.MaxInt, false}, {math.MinInt, false}, {math.MinInt + 1, false},
	} {
		if got := num.Is(c.n); got != c.want {
			t.Errorf("Is(%d): %v", c.n, got)
		}
	}
}

// P1.1
func TestAddSubMulOfKnownNumbers(t *testing.T) {
	for _, c := range []struct {
		name string
		f    func(a, b int) (int, api.Errno)
		a, b int
		want int
		e    api.Errno
	}{
		{"Add", num.Add, 3, 4, 7, api.OK},
		{"Add", num.Add, -3, 4, 1, api.OK},
		{"Add", num.Add, most, 0, most, api.OK},
		{"Add", num.Add, most - 1, 1, most, api.OK},
		{"Add", num.Add, most, 1, 0, api.ErrRange},
		{"Add", num.Add, -most, -1, 0, api.ErrRange},
		{"Add", num.Add, most, -most, 0, api.OK},
		{"Add", num.Add, most + 1, -1, 0, api.ErrRange},
		{"Add", num.Add, -1, most + 1, 0, api.ErrRange},
		{"Add", num.Add, math.MaxInt, math.MinInt, 0, api.ErrRange},
		{"Add", num.Add, math.MinInt, math.MinInt, 0, api.ErrRange},
		{"Sub", num.Sub, 3, 4, -1, api.OK},
		{"Sub", num.Sub, -3, 4, -7, api.OK},
		{"Sub", num.Sub, most, most, 0, api.OK},
		{"Sub", num.Sub, 0, most, -most, api.OK},
		{"Sub", num.Sub, 0, -most, most, api.OK},
		{"Sub", num.Sub, -most, 1, 0, api.ErrRange},
		{"Sub", num.Sub, most, -1, 0, api.ErrRange},
		{"Sub", num.Sub, most + 1, 1, 0, api.ErrRange},
		{"Sub", num.Sub, -1, -most - 1, 0, api.ErrRange},
		{"Sub", num.Sub, math.MinInt, math.MinInt, 0, api.ErrRange},
		{"Sub", num.Sub, math.MaxInt, math.MaxInt, 0, api.ErrRange},
		{"Mul", num.Mul, 3, 4, 12, api.OK},
		{"Mul", num.Mul, -3, 4, -12, api.OK},
		{"Mul", num.Mul, -3, -4, 12, api.OK},
		{"Mul", num.Mul, most, 1, most, api.OK},
		{"Mul", num.Mul, most, -1, -most, api.OK},
		{"Mul", num.Mul, 1 << 20, 1 << 20, most, api.OK},
		{"Mul", num.Mul, -1 << 20, 1 << 20, -most, api.OK},
		{"Mul", num.Mul, 1 << 20, 1<<20 + 1, 0, api.ErrRange},
		{"Mul", num.Mul, 1 << 39, -3, 0, api.ErrRange},
		{"Mul", num.Mul, most, 2, 0, api.ErrRange},
		{"Mul", num.Mul, most, 1 << 24, 0, api.ErrRange},
		{"Mul", num.Mul, most, -most, 0, api.ErrRange},
		{"Mul", num.Mul, 1 << 32, 1<<32 + 1, 0, api.ErrRange},
		{"Mul", num.Mul, 0, most, 0, api.OK},
		{"Mul", num.Mul, most + 1, 0, 0, api.ErrRange},
		{"Mul", num.Mul, 0, -most - 1, 0, api.ErrRange},
		{"Mul", num.Mul, math.MinInt, -1, 0, api.ErrRange},
		{"Mul", num.Mul, math.MinInt, 0, 0, api.ErrRange},
		{"Mul", num.Mul, math.MaxInt, math.MaxInt, 0, api.ErrRange},
	} {
		if got, e := c.f(c.a, c.b); got != c.want || e != c.e {
			t.Errorf("%s(%d, %d): %d, %d; want %d, %d", c.name, c.a, c.b, got, e, c.want, c.e)
		}
	}
}

// P1.1: all pairs of edges, held against numbers that have no end.
func TestAddSubMulOfEdges(t *testing.T) {
	for _, c := range []struct {
		name string
		f    func(a, b int) (int, api.Errno)
		do   func(z, x, y *big.Int) *big.Int
	}{
		{"Add", num.Add, (*big.Int).Add},
		{"Sub", num.Sub, (*big.Int).Sub},
		{"Mul", num.Mul, (*big.Int).Mul},
	} {
		for _, a := range edges() {
			for _, b := range edges() {
				want, we := expect(a, b, c.do)
				if got, e := c.f(a, b); got != want || e != we {
					t.Errorf("%s(%d, %d): %d, %d; want %d, %d", c.name, a, b, got, e, want, we)
				}
			}
		}
	}
}

// P1.1
func TestSum(t *testing.T) {
	for _, c := range []struct {
		l    []int
		want int
		e    api.Errno
	}{
		{nil, 0, api.OK},
		{[]int{}, 0, api.OK},
		{[]int{5}, 5, api.OK},
		{[]int{1, 2, 3}, 6, api.OK},
		{[]int{4, -9, 2}, -3, api.OK},
		{[]int{most}, most, api.OK},
		{[]int{-most}, -most, api.OK},
		{[]int{most + 1}, 0, api.ErrRange},
		{[]int{-most - 1}, 0, api.ErrRange},
		{[]int{most, -1, 1}, most, api.OK},
		{[]int{most, 1, -1}, 0, api.ErrRange},
		{[]int{-1, most, 1}, most, api.OK},
		{[]int{-most, -1, 1}, 0, api.ErrRange},
		{[]int{most, -most, -most, most}, 0, api.OK},
		{[]int{-1, most + 1}, 0, api.ErrRange},
		{[]int{most + 1, -1}, 0, api.ErrRange},
		{[]int{1, 2, -most - 1, most}, 0, api.ErrRange},
		{[]int{math.MaxInt, math.MinInt, 1}, 0, api.ErrRange},
		{[]int{0, math.MinInt, math.MinInt}, 0, api.ErrRange},
		{[]int{3, math.MaxInt}, 0, api.ErrRange},
	} {
		if got, e := num.Sum(c.l...); got != c.want || e != c.e {
			t.Errorf("Sum(%v): %d, %d; want %d, %d", c.l, got, e, c.want, c.e)
		}
	}
	if got, e := num.Sum(); got != 0 || e != api.OK {
		t.Errorf("Sum of none: %d, %d", got, e)
	}
}

// P1.1: a list of 2^20 numbers that reaches the edge exactly, and one more.
func TestSumOfManyNumbers(t *testing.T) {
	l := slices.Repeat([]int{1 << 20}, 1<<20)
	if got, e := num.Sum(l...); got != most || e != api.OK {
		t.Errorf("at the edge: %d, %d", got, e)
	}
	if got, e := num.Sum(append(l, 1)...); got != 0 || e != api.ErrRange {
		t.Errorf("beyond the edge: %d, %d", got, e)
	}
}

// Rules, 'Memory': the list, and the room behind its end, stay as they were.
func TestSumLeavesItsList(t *testing.T) {
	l := []int{1, 2, 3, most, 5, 6}
	num.Sum(l[:3]...)
	num.Sum(l[:5]...)
	if !slices.Equal(l, []int{1, 2, 3, most, 5, 6}) {
		t.Error("Sum changed its list:", l)
	}
}

// thrown is what f panics with; nil where it does not.
func thrown(f func()) (p any) {
	defer func() { p = recover() }()
	f()
	return nil
}

// P1.2
func TestMustOfNoError(t *testing.T) {
	for _, n := range edges() {
		var got int
		if p := thrown(func() { got = num.Must(n, api.OK) }); p != nil || got != n {
			t.Errorf("Must(%d, OK): %d, panic %v", n, got, p)
		}
	}
}

// P1.2
func TestMustOfErrors(t *testing.T) {
	for _, n := range []int{0, 7, most + 1} {
		for e := api.ErrArg; e <= api.ErrLine; e++ {
			if p := thrown(func() { num.Must(n, e) }); p != any(e) {
				t.Errorf("Must(%d, %d): panic %v", n, e, p)
			}
		}
	}
	if p := thrown(func() { num.Must(num.Add(most, 1)) }); p != any(api.ErrRange) {
		t.Error("Must of a sum that may not be:", p)
	}
}

// P1.2
func TestTryOfWhatTells(t *testing.T) {
	for _, n := range edges() {
		if got, e := num.Try(func() int { return n }); got != n || e != api.OK {
			t.Errorf("Try of %d: %d, %d", n, got, e)
		}
	}
	if got, e := num.Try(func() int { return num.Must(num.Mul(6, 7)) }); got != 42 || e != api.OK {
		t.Errorf("Try of a product: %d, %d", got, e)
	}
}

// P1.2
func TestTryOfErrors(t *testing.T) {
	for e := api.ErrArg; e <= api.ErrLine; e++ {
		if got, f := num.Try(func() int { return num.Must(9, e) }); got != 0 || f != e {
			t.Errorf("Try of a Must of %d: %d, %d", e, got, f)
		}
		if got, f := num.Try(func() int { panic(e) }); got != 0 || f != e {
			t.Errorf("Try of a panic with %d: %d, %d", e, got, f)
		}
	}
	if got, e := num.Try(nil); got != 0 || e != api.ErrRange {
		t.Errorf("Try of no f: %d, %d", got, e)
	}
}

// P1.2: an error goes up to the nearest Try, and no further.
func TestTryInTry(t *testing.T) {
	got, e := num.Try(func() int {
		if n, f := num.Try(func() int { return num.Must(1, api.ErrFull) }); n != 0 || f != api.ErrFull {
			t.Errorf("inner: %d, %d", n, f)
		}
		return 8
	})
	if got != 8 || e != api.OK {
		t.Errorf("outer: %d, %d", got, e)
	}
	if got, e := num.Try(func() int { return num.Must(num.Try(nil)) }); got != 0 || e != api.ErrRange {
		t.Errorf("handed on: %d, %d", got, e)
	}
}

// P1.2: what is no error of api's goes on as it was.
func TestTryLetsOtherPanicsGoOn(t *testing.T) {
	full := api.ErrFull
	for _, want := range []any{"a text", 7, int(api.ErrFull), uint8(2), errors.New("an error"), &full, struct{ e api.Errno }{api.ErrFull}, 1.5} {
		if p := thrown(func() { num.Try(func() int { panic(want) }) }); p != want {
			t.Errorf("panic with %v came as %v", want, p)
		}
	}
	var list []int
	p := thrown(func() { num.Try(func() int { return list[3] }) })
	if _, ok := p.(runtime.Error); !ok {
		t.Errorf("a runtime error came as %v", p)
	}
	p = thrown(func() { num.Try(func() int { panic(nil) }) })
	if _, ok := p.(*runtime.PanicNilError); !ok {
		t.Errorf("a panic with nil came as %v", p)
	}
	p = thrown(func() { num.Try(func() int { n, _ := num.Try(func() int { panic("inner") }); return n }) })
	if p != any("inner") {
		t.Errorf("through two: %v", p)
	}
}

// P1.3: what is told may be, and beside an error it is 0.
func TestWhatIsToldMayBe(t *testing.T) {
	check := func(name string, a, b, n int, e api.Errno) {
		if n < -most || n > most || e != api.OK && (n != 0 || e != api.ErrRange) {
			t.Errorf("%s of %d, %d: %d, %d", name, a, b, n, e)
		}
	}
	for _, a := range edges() {
		for _, b := range edges() {
			n, e := num.Add(a, b)
			check("Add", a, b, n, e)
			n, e = num.Sub(a, b)
			check("Sub", a, b, n, e)
			n, e = num.Mul(a, b)
			check("Mul", a, b, n, e)
			n, e = num.Sum(a, b)
			check("Sum", a, b, n, e)
			n, e = num.Sum(b, a, b)
			check("Sum of three", a, b, n, e)
		}
	}
}

// P1.3: sums and products hang on no order of two.
func TestOrderOfTwo(t *testing.T) {
	two := func(f func(l ...int) (int, api.Errno)) func(a, b int) (int, api.Errno) {
		return func(a, b int) (int, api.Errno) { return f(a, b) }
	}
	for _, c := range []struct {
		name string
		f    func(a, b int) (int, api.Errno)
	}{
		{"Add", num.Add}, {"Mul", num.Mul}, {"Sum", two(num.Sum)},
	} {
		for _, a := range edges() {
			for _, b := range edges() {
				n, e := c.f(a, b)
				m, f := c.f(b, a)
				if n != m || e != f {
					t.Errorf("%s(%d, %d): %d, %d; the other way %d, %d", c.name, a, b, n, e, m, f)
				}
			}
		}
	}
}
