package octets_test

import (
	"bytes"
	"fmt"
	"math"
	"slices"
	"strconv"
	"strings"
	"testing"

	"usufruct/api"
	"usufruct/octets"
)

const most = 1 << 40

// edges: small numbers, each at which one byte more is needed, the outermost ones that may be, all of these on both sides of 0, and what lies just beside them.
func edges() []int {
	var all []int
	for _, n := range []int{0, 1, 1 << 6, 1 << 13, 1 << 20, 1 << 27, 1 << 34, most} {
		for _, m := range []int{n - 2, n - 1, n, n + 1, n + 2} {
			all = append(all, m, -m)
		}
	}
	return all
}

// strange may not be.
func strange() []int {
	return []int{most + 1, -most - 1, most + 2, 2*most - 1, 2 * most, -2 * most, 1 << 42, -1 << 42, 1 << 62, -1 << 62, math.MaxInt, math.MaxInt - 1, math.MinInt, math.MinInt + 1}
}

// digits is a number's bytes by the words, written down bit by bit.
func digits(n int) string {
	if n < -most || n > most {
		n = 0
	}
	u := n + n
	if n < 0 {
		lacks := -1 - n
		u = lacks + lacks + 1
	}
	bits := strconv.FormatInt(int64(u), 2)
	var row []byte
	for len(bits) > 7 {
		c, _ := strconv.ParseUint("1"+bits[len(bits)-7:], 2, 8)
		row = append(row, byte(c))
		bits = bits[:len(bits)-7]
	}
	c, _ := strconv.ParseUint(bits, 2, 8)
	return string(append(row, byte(c)))
}

const behind = "\xa5\x5a\x03"

// guarded is b with room behind its end, in which something stands.
func guarded(b string) []byte {
	return []byte(b + behind)[:len(b)]
}

// untouched tells whether b, and the room behind it, are as guarded made them.
func untouched(b []byte, was string) bool {
	return string(b[:len(b)+len(behind)]) == was+behind
}

// scribble writes over a list, its spare room too.
func scribble(b []byte) {
	b = b[:cap(b)]
	for i := range b {
		b[i] ^= 0xff
	}
}

// put holds Number against the words, and what is handed in against what it was.
func put(t *testing.T, b string, n int) {
	t.Helper()
	in := guarded(b)
	got := octets.Number(in, n)
	if want := b + digits(n); string(got) != want {
		t.Fatalf("Number(%x, %d): %x; want %x", b, n, got, want)
	}
	scribble(got)
	if !untouched(in, b) {
		t.Fatalf("Number(%x, %d) has changed, or shares, what it was given", b, n)
	}
}

// putText holds Text against the words, and what is handed in against what it was.
func putText(t *testing.T, b, s string) {
	t.Helper()
	in := guarded(b)
	got := octets.Text(in, s)
	if want := b + digits(len(s)) + s; string(got) != want {
		t.Fatalf("Text(%x, %d bytes): %x; want %x", b, len(s), got, want)
	}
	scribble(got)
	if !untouched(in, b) {
		t.Fatalf("Text(%x, %d bytes) has changed, or shares, what it was given", b, len(s))
	}
}

// fronts are bytes behind which others are put: none, few, and many; those of numbers, and of none.
func fronts() []string {
	return []string{"", "p", "\x00", "\x80", "\xff\xff\xff\xff\xff\xff\xff", "\x02ab\x80\x01", strings.Repeat("\x81", 1000)}
}

// texts are of each length at which one byte more is needed, and just beside it; of letters, and of bytes that are none.
func texts() []string {
	all := []string{"ab", "\x00", "\x80", "\xff", "é", "日本", "\xc3", "a\x00b", "\x00\x00\x00"}
	for _, n := range []int{0, 1, 2, 62, 63, 64, 65, 126, 127, 128, 129, 8191, 8192, 1<<15 - 1, 1 << 15} {
		all = append(all, strings.Repeat("x", n), strings.Repeat("\x80", n), strings.Repeat("\x00\xff\x7f", n)[:n])
	}
	return all
}

// P8.1: the bytes as they stand in the chapter's example, and worked out by hand.
func TestNumberByHand(t *testing.T) {
	for _, c := range []struct {
		n    int
		want []byte
	}{
		{0, []byte{0}}, {-1, []byte{1}}, {1, []byte{2}}, {-2, []byte{3}}, {2, []byte{4}},
		{63, []byte{126}}, {-64, []byte{127}}, {64, []byte{128, 1}}, {-65, []byte{129, 1}},
		{127, []byte{254, 1}}, {128, []byte{128, 2}},
		{8191, []byte{254, 127}}, {-8192, []byte{255, 127}}, {8192, []byte{128, 128, 1}}, {-8193, []byte{129, 128, 1}},
		{1<<20 - 1, []byte{254, 255, 127}}, {1 << 20, []byte{128, 128, 128, 1}},
		{-1 << 20, []byte{255, 255, 127}}, {-1<<20 - 1, []byte{129, 128, 128, 1}},
		{1<<27 - 1, []byte{254, 255, 255, 127}}, {1 << 27, []byte{128, 128, 128, 128, 1}},
		{-1 << 27, []byte{255, 255, 255, 127}}, {-1<<27 - 1, []byte{129, 128, 128, 128, 1}},
		{1<<34 - 1, []byte{254, 255, 255, 255, 127}}, {1 << 34, []byte{128, 128, 128, 128, 128, 1}},
		{-1 << 34, []byte{255, 255, 255, 255, 127}}, {-1<<34 - 1, []byte{129, 128, 128, 128, 128, 1}},
		{most - 1, []byte{254, 255, 255, 255, 255, 63}}, {most, []byte{128, 128, 128, 128, 128, 64}},
		{-most + 1, []byte{253, 255, 255, 255, 255, 63}}, {-most, []byte{255, 255, 255, 255, 255, 63}},
		{most + 1, []byte{0}}, {-most - 1, []byte{0}}, {math.MaxInt, []byte{0}}, {math.MinInt, []byte{0}},
	} {
		if got := octets.Number(nil, c.n); !bytes.Equal(got, c.want) {
			t.Errorf("Number(nil, %d): %v; want %v", c.n, got, c.want)
		}
		if got := octets.Number([]byte{7, 200}, c.n); !bytes.Equal(got, append([]byte{7, 200}, c.want...)) {
			t.Errorf("Number({7, 200}, %d): %v; want {7, 200} and %v", c.n, got, c.want)
		}
	}
}

// P8.1: all edges behind all fronts, and numbers that may not be, which are put as 0.
func TestNumber(t *testing.T) {
	for _, b := range fronts() {
		for _, n := range append(edges(), strange()...) {
			put(t, b, n)
		}
	}
	for n := -20000; n <= 20000; n++ {
		put(t, "", n)
	}
	for _, n := range edges() {
		if n < -most || n > most {
			continue
		}
		if empty := octets.Number([]byte{}, n); string(empty) != string(octets.Number(nil, n)) {
			t.Errorf("Number({}, %d): %x", n, empty)
		}
	}
}

// P8.1: all texts behind all fronts.
func TestText(t *testing.T) {
	for _, b := range fronts() {
		for _, s := range texts() {
			putText(t, b, s)
		}
	}
	for _, c := range []struct {
		s    string
		want string
	}{
		{"", "\x00"}, {"a", "\x02a"}, {"ab", "\x04ab"}, {"\x00", "\x02\x00"},
		{strings.Repeat("z", 63), "\x7e" + strings.Repeat("z", 63)}, {strings.Repeat("z", 64), "\x80\x01" + strings.Repeat("z", 64)},
		{strings.Repeat("z", 127), "\xfe\x01" + strings.Repeat("z", 127)}, {strings.Repeat("z", 128), "\x80\x02" + strings.Repeat("z", 128)},
	} {
		if got := octets.Text(nil, c.s); string(got) != c.want {
			t.Errorf("Text(nil, %d bytes): %x; want %x", len(c.s), got, c.want)
		}
	}
}

// P8.1: what is put behind one and the same bytes, with room behind them, twice, does not meet there.
func TestPutTwice(t *testing.T) {
	b := guarded("pq")
	one, two := octets.Number(b, 5), octets.Number(b, most)
	three, four := octets.Text(b, "abc"), octets.Text(b, "")
	five, six := octets.Number(one, 6), octets.Text(one, "x")
	for i, c := range []struct {
		got  []byte
		want string
	}{{one, "pq\x0a"}, {two, "pq" + digits(most)}, {three, "pq\x06abc"}, {four, "pq\x00"}, {five, "pq\x0a\x0c"}, {six, "pq\x0a\x02x"}} {
		if string(c.got) != c.want {
			t.Errorf("answer %d: %x; want %x", i, c.got, c.want)
		}
	}
	all := [][]byte{one, two, three, four, five, six}
	for i := range all {
		was := fmt.Sprintf("%x", slices.Delete(slices.Clone(all), i, i+1))
		scribble(all[i])
		if now := fmt.Sprintf("%x", slices.Delete(slices.Clone(all), i, i+1)); now != was {
			t.Errorf("answer %d shares room with another one", i)
		}
	}
	if !untouched(b, "pq") {
		t.Errorf("what was handed in: %x", b[:cap(b)])
	}
}

// A limit of the tests' own must be the layers'.
func TestMost(t *testing.T) {
	if most != api.MaxNumber {
		t.Error("most:", most)
	}
}
