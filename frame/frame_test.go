package frame_test

import (
	"bytes"
	"strings"
	"testing"

	"usufruct/api"
	"usufruct/frame"
)

const most = 1 << 15

// slow is a payload's sum by the words, bit by bit.
func slow(b string) uint32 {
	sum := uint32(0xffffffff)
	for i := range len(b) {
		sum ^= uint32(b[i])
		for range 8 {
			low := sum & 1
			sum >>= 1
			if low == 1 {
				sum ^= 0xedb88320
			}
		}
	}
	return sum ^ 0xffffffff
}

// four is a number's four bytes, the lowest first.
func four(n uint32) string {
	row := ""
	for range 4 {
		row += string([]byte{byte(n % 256)})
		n /= 256
	}
	return row
}

// framed is a payload's frame by the words, of one that is too long, too.
func framed(p string) string {
	return four(uint32(len(p))) + four(slow(p)) + p
}

// behind stands in the room behind the end of what is handed in.
const behind = "\xa5\x5a\x03"

// guarded is b with room behind its end, in which something stands.
func guarded(b string) []byte {
	return []byte(b + behind)[:len(b)]
}

// untouched tells whether b, and the room behind it, are as guarded made them.
func untouched(b []byte, was string) bool {
	return string(b[:len(b)+len(behind)]) == was+behind
}

// scribble writes over a list, its spare room too.
func scribble(b []byte) {
	b = b[:cap(b)]
	for i := range b {
		b[i] ^= 0xff
	}
}

// singles is a payload of each one byte.
func singles() []string {
	var all []string
	for c := range 256 {
		all = append(all, string([]byte{byte(c)}))
	}
	return all
}

// mixed is n bytes of all values, in no plain order.
func mixed(n int) string {
	row, last := make([]byte, n), 1
	for i := range row {
		last = (last*75 + 74) % 65537
		row[i] = byte(last >> 3)
	}
	return string(row)
}

// plain are ordinary payloads, and some that look like frames.
func plain() []string {
	return []string{
		"a", "ab", "123456789", "é日本", "\x00\x00", "\x80\x7f", "\xff\xff\xff\xff",
		"\x00\x00\x00\x00\x00\x00\x00\x00", framed(""), framed("a"), framed("a") + framed("bc"),
		framed(framed("a")), framed("ab")[:9], "\x9d\x0a\xd9\x6d", strings.Repeat("\x00", 40), mixed(40), mixed(300),
	}
}

// sized are payloads of each length at which a byte of it is another one, and just beside it, up to the greatest that may be.
func sized() []string {
	var all []string
	for _, n := range []int{0, 1, 2, 7, 8, 9, 127, 128, 129, 254, 255, 256, 257, 511, 512, 4095, 4096, most/2 - 1, most / 2, most - 257, most - 256, most - 1, most} {
		all = append(all, mixed(n), strings.Repeat("\x00", n), strings.Repeat("\xff", n))
	}
	return all
}

// payloads are all of these.
func payloads() []string {
	return append(append(singles(), plain()...), sized()...)
}

// P9.1: sums that are known, the chapter's example among them.
func TestSumByHand(t *testing.T) {
	for _, c := range []struct {
		b    string
		want uint32
	}{
		{"", 0}, {"123456789", 0xcbf43926}, {"a", 0xe8b7be43}, {"abc", 0x352441c2},
		{"\x00", 0xd202ef8d}, {"\xff", 0xff000000}, {"\x00\x00\x00\x00", 0x2144df1c},
		{"\xff\xff\xff\xff", 0xffffffff}, {"\x9d\x0a\xd9\x6d", 0},
		{"The quick brown fox jumps over the lazy dog", 0x414fa339},
	} {
		if got := frame.Sum([]byte(c.b)); got != c.want {
			t.Errorf("Sum(%q): %#x; want %#x", c.b, got, c.want)
		}
		if got := slow(c.b); got != c.want {
			t.Errorf("by the words the sum of %q is %#x; want %#x", c.b, got, c.want)
		}
	}
	if frame.Sum(nil) != 0 || frame.Sum([]byte{}) != 0 {
		t.Error("the sum of nothing is not 0")
	}
}

// sum holds Sum against the words, and what is handed in against what it was.
func sum(t *testing.T, b string) {
	t.Helper()
	in := guarded(b)
	if got, want := frame.Sum(in), slow(b); got != want {
		t.Fatalf("Sum of %d bytes, %.40x: %#x; want %#x", len(b), b, got, want)
	}
	if !untouched(in, b) {
		t.Fatalf("Sum of %d bytes, %.40x, has changed them", len(b), b)
	}
}

// P9.1: sums of nothing, of each one byte, of each two, of many, and of more than a payload may have.
func TestSum(t *testing.T) {
	for _, p := range payloads() {
		sum(t, p)
	}
	for _, a := range singles() {
		for _, b := range singles() {
			sum(t, a+b)
		}
	}
	for n := range 600 {
		sum(t, mixed(n))
	}
	for _, n := range []int{most + 1, 2 * most, 1 << 17, 1<<20 + 3} {
		sum(t, mixed(n))
	}
}

// P9.1: frames as they stand, worked out by hand.
func TestPutByHand(t *testing.T) {
	for _, c := range []struct {
		p    string
		want string
	}{
		{"", "\x00\x00\x00\x00\x00\x00\x00\x00"},
		{"a", "\x01\x00\x00\x00\x43\xbe\xb7\xe8a"},
		{"\x00", "\x01\x00\x00\x00\x8d\xef\x02\xd2\x00"},
		{"\xff", "\x01\x00\x00\x00\x00\x00\x00\xff\xff"},
		{"abc", "\x03\x00\x00\x00\xc2\x41\x24\x35abc"},
		{"123456789", "\x09\x00\x00\x00\x26\x39\xf4\xcb123456789"},
	} {
		if got, e := frame.Put([]byte(c.p)); string(got) != c.want || e != api.OK {
			t.Errorf("Put(%q): %x, %d; want %x", c.p, got, e, c.want)
		}
	}
	for _, none := range [][]byte{nil, {}} {
		if got, e := frame.Put(none); !bytes.Equal(got, make([]byte, 8)) || e != api.OK {
			t.Errorf("Put(%#v): %x, %d; want 8 times 0", none, got, e)
		}
	}
}

// P9.1: all payloads against the words; what is handed in stays as it was, and is not what is told.
func TestPut(t *testing.T) {
	for _, p := range payloads() {
		in := guarded(p)
		got, e := frame.Put(in)
		if string(got) != framed(p) || e != api.OK {
			t.Fatalf("Put of %d bytes, %.40x: %.60x, %d; want %.60x", len(p), p, got, e, framed(p))
		}
		again, _ := frame.Put(in)
		scribble(got)
		if !untouched(in, p) {
			t.Fatalf("Put of %d bytes, %.40x, has changed, or shares, what it was given", len(p), p)
		}
		scribble(in)
		if string(again) != framed(p) {
			t.Fatalf("Put of %d bytes, %.40x, shares what it tells", len(p), p)
		}
	}
}

// P9.1: a payload that is too long, by one byte and by many, has no frame.
func TestPutTooLong(t *testing.T) {
	for _, n := range []int{most + 1, most + 2, most + 8, 2*most - 1, 2 * most, 2*most + 1, 1<<17 + 1, 1 << 20, 1 << 24} {
		p := strings.Repeat("\x00", n)
		in := guarded(p)
		if got, e := frame.Put(in); len(got) != 0 || e != api.ErrRange {
			t.Errorf("Put of %d bytes: %d bytes, %d; want nothing, %d", n, len(got), e, api.ErrRange)
		}
		if !untouched(in, p) {
			t.Errorf("Put of %d bytes has changed them", n)
		}
	}
}

// P9.1: a frame hangs on the payload alone, not on the room behind it.
func TestPutRoom(t *testing.T) {
	for _, p := range plain() {
		for _, room := range []int{0, 1, 8, most} {
			in := append(make([]byte, 0, len(p)+room), p...)
			if got, e := frame.Put(in); string(got) != framed(p) || e != api.OK {
				t.Errorf("Put(%x) with room for %d more: %x, %d; want %x", p, room, got, e, framed(p))
			}
		}
	}
}
