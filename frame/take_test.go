package frame_test

import (
	"math"
	"strings"
	"testing"

	"usufruct/api"
	"usufruct/frame"
)

// taken is what Take is to tell by the words.
func taken(b string) (string, int, api.Errno) {
	if len(b) < 8 {
		return "", 0, api.ErrShort
	}
	long, sum := 0, 0
	for i := 3; i >= 0; i-- {
		long = long*256 + int(b[i])
		sum = sum*256 + int(b[4+i])
	}
	switch {
	case long > most:
		return "", 0, api.ErrRange
	case len(b)-8 < long:
		return "", 0, api.ErrShort
	case int(slow(b[8:8+long])) != sum:
		return "", 0, api.ErrSum
	}
	return b[8 : 8+long], 8 + long, api.OK
}

// take holds Take against the words, and what is handed in against what it was.
func take(t *testing.T, b string) api.Errno {
	t.Helper()
	in := guarded(b)
	got, n, e := frame.Take(in)
	p, m, f := taken(b)
	if string(got) != p || n != m || e != f {
		t.Fatalf("Take of %d bytes, %.60x: %.40x, %d, %d; want %.40x, %d, %d", len(b), b, got, n, e, p, m, f)
	}
	again, _, _ := frame.Take(in)
	scribble(got)
	if !untouched(in, b) {
		t.Fatalf("Take of %d bytes, %.60x, has changed, or shares, what it was given", len(b), b)
	}
	scribble(in)
	if string(again) != p {
		t.Fatalf("Take of %d bytes, %.60x, shares what it tells", len(b), b)
	}
	return e
}

// want is take, of which one error is to come.
func want(t *testing.T, b string, e api.Errno) {
	t.Helper()
	if got := take(t, b); got != e {
		t.Fatalf("Take of %d bytes, %.60x: %d; want %d", len(b), b, got, e)
	}
}

// refused asks Take itself for an error, and for nothing beside it.
func refused(t *testing.T, b []byte, e api.Errno) {
	t.Helper()
	if p, n, got := frame.Take(b); len(p) != 0 || n != 0 || got != e {
		t.Fatalf("Take of %d bytes, %.60x: %.40x, %d, %d; want nothing, 0, %d", len(b), b, p, n, got, e)
	}
}

// P9.2: frames, and what is none, as they stand, worked out by hand.
func TestTakeByHand(t *testing.T) {
	for _, c := range []struct {
		b string
		p string
		n int
		e api.Errno
	}{
		{"\x00\x00\x00\x00\x00\x00\x00\x00", "", 8, api.OK},
		{"\x01\x00\x00\x00\x43\xbe\xb7\xe8a", "a", 9, api.OK},
		{"\x01\x00\x00\x00\x43\xbe\xb7\xe8a\x09", "a", 9, api.OK},
		{"\x01\x00\x00\x00\x43\xbe\xb7\xe8aa", "a", 9, api.OK},
		{"\x09\x00\x00\x00\x26\x39\xf4\xcb123456789", "123456789", 17, api.OK},
		{"\x00\x00\x00\x00\x00\x00\x00\x00\x01\x00\x00\x00\x43\xbe\xb7\xe8a", "", 8, api.OK},
		{"", "", 0, api.ErrShort},
		{"\x00\x00\x00\x00\x00\x00\x00", "", 0, api.ErrShort},
		{"\x01\x00\x00\x00\x43\xbe\xb7\xe8", "", 0, api.ErrShort},
		{"\x02\x00\x00\x00\x43\xbe\xb7\xe8a", "", 0, api.ErrShort},
		{"\x01\x00\x00\x00\x43\xbe\xb7\xe8b", "", 0, api.ErrSum},
		{"\x01\x00\x00\x00\xe8\xb7\xbe\x43a", "", 0, api.ErrSum},
		{"\x00\x00\x00\x01\x43\xbe\xb7\xe8a", "", 0, api.ErrRange},
		{"\x00\x80\x00\x00\x00\x00\x00\x00", "", 0, api.ErrShort},
		{"\x01\x80\x00\x00\x00\x00\x00\x00", "", 0, api.ErrRange},
		{"\xff\xff\xff\xff\xff\xff\xff\xff", "", 0, api.ErrRange},
		{"no frame at all", "", 0, api.ErrRange},
	} {
		if p, n, e := frame.Take([]byte(c.b)); string(p) != c.p || n != c.n || e != c.e {
			t.Errorf("Take(%x): %x, %d, %d; want %x, %d, %d", c.b, p, n, e, c.p, c.n, c.e)
		}
	}
	refused(t, nil, api.ErrShort)
	refused(t, []byte{}, api.ErrShort)
}

// tails are bytes that stand behind a frame: none, few, many, whole frames, and pieces of some.
func tails() []string {
	return []string{"", "\x00", "\xff", "\x00\x00\x00\x00\x00\x00\x00\x00", framed("a"), framed("a")[:8], framed("a") + framed("b"), "\xff\xff\xff\xff\xff\xff\xff\xff\xff", mixed(1000)}
}

// P9.2: the frames of all payloads, with other bytes behind them.
func TestTake(t *testing.T) {
	for _, p := range payloads() {
		for _, tail := range tails() {
			want(t, framed(p)+tail, api.OK)
		}
	}
}

// P9.3: what was put is taken, by these two calls alone.
func TestPutTaken(t *testing.T) {
	for _, p := range payloads() {
		b, e := frame.Put([]byte(p))
		if e != api.OK {
			t.Fatalf("Put of %d bytes: %d", len(p), e)
		}
		size := len(b)
		for _, tail := range tails() {
			got, n, e := frame.Take(append(b[:size:size], tail...))
			if string(got) != p || n != size || e != api.OK {
				t.Fatalf("%d bytes, %.40x, were put and %.20x behind them; taken: %.40x, %d, %d", len(p), p, tail, got, n, e)
			}
		}
	}
}

// P9.2: fewer than 8 bytes, each number of them, whatever they are: short, though their length is too great.
func TestTakeFewerThanHead(t *testing.T) {
	for n := range 8 {
		for _, letters := range append(singles(), "\x01\x80\x00\x00", "\x01\x00\x00\x00\x43\xbe\xb7", "\xff\xff\xff\xff\x00\x00\x00") {
			b := strings.Repeat(letters, 8)[:n]
			want(t, b, api.ErrShort)
			refused(t, []byte(b), api.ErrShort)
			// The rest of a whole frame of nothing in the room behind the end is not to be read.
			refused(t, make([]byte, 8)[:n], api.ErrShort)
		}
	}
}

// P9.2: a frame of which the last bytes are missing, at each byte, though they stand in the room behind the end.
func TestTakeCutOff(t *testing.T) {
	for _, p := range append(plain(), mixed(most), strings.Repeat("\x00", most)) {
		b := []byte(framed(p))
		for n := range b {
			refused(t, b[:n], api.ErrShort)
		}
		if string(b) != framed(p) {
			t.Fatalf("Take has changed pieces of a frame of %d bytes", len(p))
		}
	}
	for _, p := range plain() {
		for n := range framed(p) {
			want(t, framed(p)[:n], api.ErrShort)
		}
	}
}

// P9.2: lengths of just 2^15, of one more, and of far more, up to the greatest that four bytes can say.
func TestTakeLength(t *testing.T) {
	for _, long := range []uint32{most + 1, most + 2, 2*most - 1, 2 * most, 2*most + 1, 3 * most, 1 << 17, 1<<24 - 1, 1 << 24, 1<<24 + 1, 1<<31 - 1, 1 << 31, 1<<31 + 1, 1<<31 + most, math.MaxUint32 - 8, math.MaxUint32 - 7, math.MaxUint32 - 1, math.MaxUint32} {
		for _, rest := range []string{"\x00\x00\x00\x00", "\xff\xff\xff\xff", four(slow("a")) + "a", "\x00\x00\x00\x00" + mixed(70)} {
			want(t, four(long)+rest, api.ErrRange)
			refused(t, []byte(four(long)+rest), api.ErrRange)
		}
	}
	for _, n := range []int{most + 1, most + 2, 2 * most, 1 << 17} {
		p := mixed(n)
		want(t, framed(p), api.ErrRange)
		want(t, framed(p)+"\x00", api.ErrRange)
		want(t, framed(p)[:n], api.ErrRange)
		want(t, four(uint32(n))+"\x00\x00\x00\x00"+p, api.ErrRange)
	}
	whole := mixed(most)
	want(t, framed(whole), api.OK)
	want(t, framed(whole)+"\x00", api.OK)
	want(t, framed(whole)[:most+7], api.ErrShort)
	want(t, framed(whole)[:8], api.ErrShort)
	want(t, four(most)+"\x00\x00\x00\x00"+whole, api.ErrSum)
	want(t, four(most)+"\x00\x00\x00\x00"+whole[1:], api.ErrShort)
}

// P9.2: sums of which one bit is another one; where bytes are missing too, that is told.
func TestTakeSum(t *testing.T) {
	for _, p := range append(append(singles(), plain()...), "", mixed(most)) {
		for bit := range 32 {
			b := four(uint32(len(p))) + four(slow(p)^1<<bit) + p
			want(t, b, api.ErrSum)
			refused(t, []byte(b), api.ErrSum)
			refused(t, []byte(b+"\x00"), api.ErrSum)
			if p != "" {
				refused(t, []byte(b)[:len(b)-1], api.ErrShort)
			}
		}
	}
	for _, sum := range []uint32{0, 1, 0xffffffff, 0x80000000, ^slow("a"), slow("b"), slow("")} {
		want(t, four(1)+four(sum)+"a", api.ErrSum)
	}
}

// turned asks that a frame, one of whose bytes was turned, is none, or one of another length.
func turned(t *testing.T, b string, at int, bits byte) {
	t.Helper()
	size := len(b)
	row := []byte(b + framed("other") + mixed(300))
	row[at] ^= bits
	if _, n, e := frame.Take(row[:size]); e == api.OK && n == size {
		t.Fatalf("%.60x, byte %d turned by %#x: still a frame", b, at, bits)
	}
	p, n, e := frame.Take(row)
	if e == api.OK && n == size {
		t.Fatalf("%.60x, byte %d turned by %#x: still a frame ahead of others", b, at, bits)
	}
	if q, m, f := taken(string(row)); string(p) != q || n != m || e != f {
		t.Fatalf("%.60x, byte %d turned by %#x: %.40x, %d, %d; want %.40x, %d, %d", b, at, bits, p, n, e, q, m, f)
	}
}

// P9.3: each byte of a frame turned, in each bit, and in all other ways.
func TestTurned(t *testing.T) {
	for _, p := range append(plain(), "", "\x00", "\xff") {
		b := framed(p)
		for at := range len(b) {
			for bits := 1; bits < 256; bits++ {
				if len(p) > 40 && bits&(bits-1) != 0 {
					continue
				}
				turned(t, b, at, byte(bits))
			}
		}
	}
}

// P9.3: the same of a frame as long as may be, of bytes at its ends and some between.
func TestTurnedLong(t *testing.T) {
	b := framed(mixed(most))
	for at := 0; at < len(b); at++ {
		if at > 16 && at < len(b)-4 && at%2111 != 0 {
			continue
		}
		for bit := range 8 {
			turned(t, b, at, 1<<bit)
		}
	}
}

// P9.3: a frame whose length is turned can be one of another length: with these bytes behind it, whose sum is 0, that of nothing is.
func TestTurnedToAnother(t *testing.T) {
	row := []byte(framed("") + "\x9d\x0a\xd9\x6d")
	if p, n, e := frame.Take(row); len(p) != 0 || n != 8 || e != api.OK {
		t.Fatalf("Take: %x, %d, %d; want nothing, 8, 0", p, n, e)
	}
	row[0] ^= 4
	if p, n, e := frame.Take(row); string(p) != "\x9d\x0a\xd9\x6d" || n != 12 || e != api.OK {
		t.Errorf("Take of another length: %x, %d, %d; want 9d0ad96d, 12, 0", p, n, e)
	}
}
