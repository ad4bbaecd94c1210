package octets_test

import (
	"bytes"
	"math"
	"math/rand/v2"
	"strings"
	"testing"

	"usufruct/api"
	"usufruct/octets"
)

// each goes through all rows of up to size of these bytes.
func each(letters string, size int, see func(row string)) {
	see("")
	row := make([]byte, 0, size)
	var grow func()
	grow = func() {
		if len(row) == size {
			return
		}
		for i := range len(letters) {
			row = append(row, letters[i])
			see(string(row))
			grow()
			row = row[:len(row)-1]
		}
	}
	grow()
}

// whole is a row, read as numbers, and put again: nothing but what was put is read without an error.
func whole(t *testing.T, row string) {
	t.Helper()
	r, want := octets.New([]byte(row)), &reading{all: row}
	var again []byte
	for r.End() == api.ErrMore {
		n, m := r.Number(), want.number()
		if n != m || r.Err() != want.err {
			t.Fatalf("%x: Number %d, %d; want %d, %d", row, n, r.Err(), m, want.err)
		}
		if r.Err() == api.OK {
			again = octets.Number(again, n)
		}
	}
	if r.End() != want.end() {
		t.Fatalf("%x: End %d; want %d", row, r.End(), want.end())
	}
	if r.End() == api.OK && string(again) != row {
		t.Fatalf("%x is read as what is put as %x", row, again)
	}
}

// wholeText is a row, read as texts, and put again.
func wholeText(t *testing.T, row string) {
	t.Helper()
	r, want := octets.New([]byte(row)), &reading{all: row}
	var again []byte
	for r.End() == api.ErrMore {
		s, z := r.Text(math.MaxInt), want.text(math.MaxInt)
		if s != z || r.Err() != want.err {
			t.Fatalf("%x: Text %x, %d; want %x, %d", row, s, r.Err(), z, want.err)
		}
		if r.Err() == api.OK {
			again = octets.Text(again, s)
		}
	}
	if r.End() == api.OK && string(again) != row {
		t.Fatalf("%x is read as what is put as %x", row, again)
	}
}

// P8.3: all short rows of bytes: of all bytes, and longer ones of those at the edges.
func TestShortRows(t *testing.T) {
	var all strings.Builder
	for c := range 256 {
		all.WriteByte(byte(c))
	}
	for _, c := range []struct {
		letters string
		size    int
	}{
		{all.String(), 2},
		{"\x00\x01\x02\x03\x3f\x40\x7e\x7f\x80\x81\x82\xbf\xc0\xfe\xff", 4},
		{"\x00\x01\x40\x7f\x80\xff", 6},
		{"\x00\x01\x80\xff", 8},
		{"\x80\x01", 14},
	} {
		each(c.letters, c.size, func(row string) {
			whole(t, row)
			wholeText(t, row)
		})
	}
}

// P8.3: the last bytes of six, at the edges of what a number may be.
func TestLongestRows(t *testing.T) {
	for first := 128; first < 256; first++ {
		for last := range 256 {
			for _, middle := range []string{"\x80\x80\x80\x80", "\xff\xff\xff\xff", "\x80\xff\x81\x80", "\x80\x80\x00\x80"} {
				whole(t, string([]byte{byte(first)})+middle+string([]byte{byte(last)}))
			}
		}
	}
}

// P8.3: no two numbers have the same bytes, nor do those of one begin with those of another.
func TestNoFront(t *testing.T) {
	seen := map[string]int{}
	add := func(n int) {
		b := string(octets.Number(nil, n))
		if m, is := seen[b]; is && m != n {
			t.Fatalf("%d and %d are both %x", m, n, b)
		}
		seen[b] = n
	}
	for n := -10000; n <= 10000; n++ {
		add(n)
	}
	for _, n := range edges() {
		if n >= -most && n <= most {
			add(n)
		}
	}
	for b, n := range seen {
		for size := 1; size < len(b); size++ {
			if m, is := seen[b[:size]]; is {
				t.Fatalf("the bytes of %d, %x, begin with those of %d", n, b, m)
			}
		}
	}
}

// item is a number, or a text.
type item struct {
	text bool
	n    int
	s    string
}

// anyItem is a number of any size, or a text, as chance has it.
func anyItem(chance *rand.Rand) item {
	if chance.IntN(3) > 0 {
		n := chance.IntN(most>>chance.IntN(41) + 1)
		if chance.IntN(2) == 0 {
			n = -n
		}
		return item{n: n}
	}
	s := make([]byte, chance.IntN(1+200>>chance.IntN(8)))
	for i := range s {
		s[i] = byte(chance.IntN(256))
	}
	return item{text: true, s: string(s)}
}

// P8.3: many numbers and texts one behind the other are read as they were put; of one byte less not all of them; with one byte more some are left.
func TestPutAndRead(t *testing.T) {
	chance := rand.New(rand.NewPCG(8, 3))
	for range 3000 {
		var items []item
		var b []byte
		for range chance.IntN(40) {
			i := anyItem(chance)
			items = append(items, i)
			if i.text {
				b = octets.Text(b, i.s)
			} else {
				b = octets.Number(b, i.n)
			}
		}
		if e := read(t, b, items); e != api.OK {
			t.Fatalf("%x: %d", b, e)
		}
		if e := read(t, append(bytes.Clone(b), byte(chance.IntN(256))), items); e != api.ErrMore {
			t.Fatalf("%x, and a byte more: %d", b, e)
		}
		if len(b) > 0 {
			if e := read(t, b[:len(b)-1], items); e != api.ErrShort {
				t.Fatalf("%x, but the last byte: %d", b, e)
			}
		}
	}
}

// read is what End tells when these items were read; each is as it was put, or there was an error.
func read(t *testing.T, b []byte, items []item) api.Errno {
	t.Helper()
	r := octets.New(b)
	for _, i := range items {
		if i.text {
			if s := r.Text(len(i.s)); s != i.s && r.Err() == api.OK {
				t.Fatalf("%x: %x was put, %x is read", b, i.s, s)
			}
		} else if n := r.Number(); n != i.n && r.Err() == api.OK {
			t.Fatalf("%x: %d was put, %d is read", b, i.n, n)
		}
	}
	return r.End()
}

// P8.2, P8.3: any calls on any bytes, those of numbers and texts with some of them turned among them.
func TestAnyCalls(t *testing.T) {
	chance := rand.New(rand.NewPCG(8, 2))
	some := limits()
	for range 20000 {
		var b []byte
		for range chance.IntN(8) {
			if i := anyItem(chance); i.text {
				b = octets.Text(b, i.s)
			} else {
				b = octets.Number(b, i.n)
			}
		}
		for range chance.IntN(3) {
			if len(b) > 0 {
				b[chance.IntN(len(b))] = byte(chance.IntN(256))
			}
		}
		p := both(t, string(b[:len(b)-chance.IntN(len(b)+1)/4]))
		for range chance.IntN(12) {
			switch chance.IntN(4) {
			case 0, 1:
				p.number()
			case 2:
				p.count(some[chance.IntN(len(some))])
			case 3:
				p.text(some[chance.IntN(len(some))])
			}
		}
	}
}
