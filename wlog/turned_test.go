package wlog_test

import (
	"math/rand/v2"
	"slices"
	"testing"

	"usufruct/api"
)

// frames tells in which of a list's frames a byte of their row is, and where that begins.
func frames(list []string, at int) (int, int) {
	begin := 0
	for i, p := range list {
		if at < begin+head+len(p) {
			return i, begin
		}
		begin += head + len(p)
	}
	return len(list), begin
}

// turned opens a disk on which a frame's bytes were turned so that it is none, and asks P12.4 of it; it tells whether it was opened.
func turned(t *testing.T, list []string, row string, i, begin, safe int) bool {
	t.Helper()
	_, why := first(row[begin:])
	if why == api.OK {
		t.Fatalf("%.40q, frame %d: still a frame", list, i)
	}
	p := holding(t, len(row)/sector+1, row, safe)
	e := p.open()
	switch {
	case why == api.ErrShort && (e != api.OK || !slices.Equal(texts(p.l.All()), list[:i]) || len(p.d.Bytes()) != begin):
		t.Fatalf("%.40q, frame %d turned, its length beyond the end: %d, %.40q", list, i, e, p.l.All())
	case why != api.ErrShort && (e != api.ErrSum || p.l != nil || string(p.d.Bytes()) != row || p.d.Safe() != safe):
		t.Fatalf("%.40q, frame %d turned: %d, %d bytes, %d safe", list, i, e, len(p.d.Bytes()), p.d.Safe())
	}
	return e == api.OK
}

// turnedLists are records of which no frame is another one's with few bits of it turned.
func turnedLists() [][]string {
	return [][]string{{"a"}, {"a", "bcd", "xyz"}, {"", "a"}, {"abc", "", "de", mixed(70, 1), "z"}, {mixed(200, 2), mixed(100, 3)}, {mixed(256, 4), mixed(300, 5), "end"}}
}

// P12.4: each byte of each frame turned, in each bit, with all of the disk safe, some and none.
func TestTurned(t *testing.T) {
	was, not := 0, 0
	for _, list := range turnedLists() {
		row := rowOf(list...)
		for at := range len(row) {
			i, begin := frames(list, at)
			for bit := range 8 {
				b := []byte(row)
				b[at] ^= 1 << bit
				for _, safe := range []int{0, at, len(row)} {
					if turned(t, list, string(b), i, begin, safe) {
						was++
					} else {
						not++
					}
				}
			}
		}
	}
	if was < 100 || not < 1000 {
		t.Error("logs that were opened, and that were not:", was, not)
	}
}

// P12.4: each byte of a short log's frames turned in all ways, and behind the last one a torn tail.
func TestTurnedAllWays(t *testing.T) {
	list := []string{"a", "bcd", "", "xyz"}
	for _, tail := range []string{"", framed("torn")[:5], framed("torn")[:11]} {
		row := rowOf(list...) + tail
		for at := range len(row) - len(tail) {
			i, begin := frames(list, at)
			for bits := 1; bits < 256; bits++ {
				b := []byte(row)
				b[at] ^= byte(bits)
				turned(t, list, string(b), i, begin, len(row))
			}
		}
	}
}

// P12.4: many bytes of one frame turned, as chance has it.
func TestTurnedByChance(t *testing.T) {
	chance := rand.New(rand.NewPCG(12, 4))
	for range 20000 {
		var list []string
		for k := range 1 + chance.IntN(6) {
			list = append(list, mixed(chance.IntN(60), k))
		}
		row := []byte(rowOf(list...))
		i, begin := frames(list, chance.IntN(len(row)))
		for range 1 + chance.IntN(9) {
			row[begin+chance.IntN(head+len(list[i]))] = byte(chance.IntN(256))
		}
		if _, e := first(string(row[begin:])); e != api.OK {
			turned(t, list, string(row), i, begin, chance.IntN(len(row)+1))
		}
	}
}

// P12.4: a length that is turned to one beyond the end, to just the end, and to one that may not be, of frames at each place.
func TestTurnedLength(t *testing.T) {
	list := []string{"abc", mixed(30, 1), "de", mixed(20, 2)}
	row := rowOf(list...)
	for i := range list {
		begin := len(rowOf(list[:i]...))
		left := len(row) - begin - head
		for _, c := range []struct {
			long int
			open bool
		}{{left - 1, false}, {left, false}, {left + 1, true}, {left + 2, true}, {most - 1, true}, {most, true}, {most + 1, false}, {1 << 24, false}, {1<<32 - 1, false}} {
			if c.long == len(list[i]) {
				continue
			}
			b := row[:begin] + four(uint32(c.long)) + row[begin+4:]
			if turned(t, list, b, i, begin, len(b)) != c.open {
				t.Errorf("frame %d with a length of %d, %d bytes behind its head: opened: %t; want %t", i, c.long, left, !c.open, c.open)
			}
		}
	}
}

// P12.1: a length that is turned so that the bytes are a whole frame, but of another length: then that is what stands there.
func TestTurnedToAnother(t *testing.T) {
	row := []byte(rowOf("a", "") + "\x9d\x0a\xd9\x6d")
	p := holding(t, 1, string(row[:17]), 17)
	if e := p.open(); e != api.OK || !slices.Equal(texts(p.l.All()), []string{"a", ""}) {
		t.Fatalf("frames: %d, %q", e, p.l.All())
	}
	row[9] ^= 4
	p = holding(t, 1, string(row), 17)
	if e := p.open(); e != api.OK || !slices.Equal(texts(p.l.All()), []string{"a", "\x9d\x0a\xd9\x6d"}) {
		t.Errorf("a frame of another length: %d, %q", e, p.l.All())
	}
	p.goOn()
}
