package disk_test

import (
	"math"
	"math/rand/v2"
	"strings"
	"testing"

	"usufruct/api"
	"usufruct/disk"
)

// P11.2: what a crash leaves, worked out by hand, the chapter's example first.
func TestCrashByHand(t *testing.T) {
	for _, c := range []struct{ safe, all, sectors, torn, left int }{
		{100, 300, 2, 5, 197},
		{100, 300, 0, 0, 100}, {100, 300, 0, 5, 105}, {100, 300, 1, 0, 128}, {100, 300, 1, 5, 133},
		{100, 300, 2, 0, 192}, {100, 300, 3, 0, 256}, {100, 300, 3, 43, 299}, {100, 300, 3, 44, 300}, {100, 300, 3, 45, 300},
		{100, 300, 4, 0, 300}, {100, 300, 0, 200, 300}, {100, 300, 0, 199, 299}, {100, 300, 9, 999, 300},
		{100, 300, -1, 0, 100}, {100, 300, 0, -1, 100}, {100, 300, -1, -1, 100}, {100, 300, -9, 7, 107}, {100, 300, 2, -9, 192},
		{100, 100, 2, 5, 100}, {100, 101, 0, 0, 100}, {100, 101, 0, 1, 101}, {100, 101, 0, 2, 101}, {100, 120, 1, 0, 120},
		{0, 300, 0, 0, 0}, {0, 300, 0, 1, 1}, {0, 300, 1, 0, 64}, {0, 300, 1, 1, 65}, {0, 300, 4, 44, 300},
		{1, 300, 0, 0, 1}, {1, 300, 1, 0, 64},
		{63, 300, 0, 0, 63}, {63, 300, 0, 1, 64}, {63, 300, 0, 2, 65}, {63, 300, 1, 0, 64}, {63, 300, 2, 0, 128},
		{64, 300, 0, 0, 64}, {64, 300, 0, 1, 65}, {64, 300, 1, 0, 128}, {64, 300, 2, 0, 192},
		{65, 300, 0, 0, 65}, {65, 300, 1, 0, 128}, {65, 300, 1, 64, 192},
		{127, 128, 1, 0, 128}, {127, 129, 1, 0, 128}, {128, 129, 1, 0, 129}, {128, 192, 1, 0, 192}, {128, 193, 1, 0, 192},
		{320, 320, 5, 5, 320}, {319, 320, 0, 0, 319}, {319, 320, 1, 0, 320}, {319, 320, 0, 1, 320},
		{0, 0, 0, 0, 0}, {0, 0, 5, 5, 0}, {0, 1, 0, 0, 0}, {0, 1, 1, 0, 1}, {0, 1, 0, 1, 1},
	} {
		d := disk.New(5)
		row := mixed(c.all, 1)
		d.Append([]byte(row[:c.safe]))
		d.Sync()
		d.Append([]byte(row[c.safe:]))
		d.Crash(c.sectors, c.torn)
		if got := d.Bytes(); string(got) != row[:c.left] || d.Safe() != c.left || d.Room() != 320-c.left {
			t.Errorf("%d bytes, %d safe, Crash(%d, %d): %d, %d safe, room for %d; want %d", c.all, c.safe, c.sectors, c.torn, len(got), d.Safe(), d.Room(), c.left)
		}
	}
}

// P11.2: each number of bytes on a disk of two sectors, each number of these safe, and some sectors and bytes more.
func TestCrash(t *testing.T) {
	row := mixed(128, 2)
	for all := range 129 {
		for safe := range all + 1 {
			for _, sectors := range []int{-1, 0, 1, 2, 3} {
				for _, torn := range []int{-1, 0, 1, 2, 62, 63, 64, 65, 127, 128, 129} {
					d := disk.New(2)
					d.Append([]byte(row[:safe]))
					d.Sync()
					d.Append([]byte(row[safe:all]))
					d.Crash(sectors, torn)
					p := pair{t, d, model{128, row[:all], safe}}
					p.m.crash(sectors, torn)
					p.same("Crash")
				}
			}
		}
	}
}

// P11.2: bytes at the ends of more sectors, and all that goes on behind the crash.
func TestCrashGoesOn(t *testing.T) {
	for _, all := range ends(256) {
		for _, safe := range ends(all) {
			for _, sectors := range []int{-1, 0, 1, 2, 3, 4, 5} {
				for _, torn := range []int{-1, 0, 1, 63, 64, 65, 300} {
					p := laid(t, 4, safe, all)
					p.crash(sectors, torn)
					p.crash(0, 0)
					p.goOn()
				}
			}
		}
	}
}

// P11.2: sectors and torn that are negative, huge, and the outermost ones, each alone, and both.
func TestCrashFar(t *testing.T) {
	near := []int{0, 1, 2, 3, 63, 64, 65, 192}
	for _, c := range []struct{ safe, all int }{{0, 0}, {0, 1}, {0, 192}, {1, 192}, {63, 191}, {64, 192}, {65, 130}, {100, 190}, {128, 192}, {191, 192}, {192, 192}} {
		for _, far := range extremes() {
			for _, other := range append(extremes(), near...) {
				p := laid(t, 3, c.safe, c.all)
				p.crash(far, other)
				p = laid(t, 3, c.safe, c.all)
				p.crash(other, far)
			}
		}
	}
}

// P11.2: the greatest disk, of which all is there but nothing safe, and all safe but a byte.
func TestCrashGreatest(t *testing.T) {
	row := []byte(mixed(whole, 5))
	for _, c := range []struct{ safe, sectors, torn, left int }{
		{0, 0, 0, 0}, {0, most, 0, whole}, {0, most - 1, 0, whole - 64}, {0, most - 1, 63, whole - 1}, {0, most - 1, 64, whole}, {0, most - 1, 65, whole},
		{0, 0, whole, whole}, {0, 0, whole - 1, whole - 1}, {0, 0, whole + 1, whole}, {0, 1, whole - 64, whole}, {0, 1, whole - 65, whole - 1},
		{0, most, whole, whole}, {0, most + 1, whole + 1, whole}, {0, math.MaxInt, 0, whole}, {0, 0, math.MaxInt, whole}, {0, math.MaxInt, math.MaxInt, whole},
		{0, math.MinInt, math.MinInt, 0}, {0, math.MinInt, math.MaxInt, whole}, {0, math.MaxInt, math.MinInt, whole},
		{1, most, 0, whole}, {1, most - 1, 0, whole - 64}, {1, 0, whole - 1, whole}, {1, 0, whole - 2, whole - 1},
		{whole - 1, 0, 0, whole - 1}, {whole - 1, 1, 0, whole}, {whole - 1, 0, 1, whole}, {whole - 1, most, whole, whole}, {whole - 1, math.MaxInt, math.MaxInt, whole},
		{whole - 64, 0, 0, whole - 64}, {whole - 64, 1, 0, whole}, {whole - 64, 0, 63, whole - 1}, {whole - 65, 1, 0, whole - 64}, {whole - 65, 2, 0, whole},
		{whole, 0, 0, whole}, {whole, most, whole, whole}, {whole, math.MinInt, math.MinInt, whole}, {whole, math.MaxInt, math.MaxInt, whole},
	} {
		d := disk.New(most)
		d.Append(row[:c.safe])
		d.Sync()
		d.Append(row[c.safe:])
		d.Crash(c.sectors, c.torn)
		if got := d.Bytes(); string(got) != string(row[:c.left]) || d.Safe() != c.left || d.Room() != whole-c.left {
			t.Errorf("%d safe, Crash(%d, %d): %d, %d safe, room for %d; want %d", c.safe, c.sectors, c.torn, len(got), d.Safe(), d.Room(), c.left)
		}
	}
}

// P11.2: a crash where nothing was ever written, and where there are no sectors.
func TestCrashEmpty(t *testing.T) {
	for _, sectors := range []int{0, 1, 3, most} {
		p := paired(t, sectors)
		for _, n := range append(extremes(), 0, 1, 64, most, whole) {
			p.crash(n, 0)
			p.crash(0, n)
			p.crash(n, n)
		}
		if p.d.Room() != sectors*64 {
			t.Errorf("an empty disk of %d sectors has room for %d", sectors, p.d.Room())
		}
	}
}

// P11.2: what a crash lost does not come back, and one crash behind another counts from what is safe then.
func TestCrashAgain(t *testing.T) {
	p := laid(t, 5, 100, 300)
	p.crash(2, 5)
	p.append("")
	p.crash(9, 99)
	p.sync()
	if p.d.Safe() != 197 || p.cut(198) != api.ErrArg {
		t.Error("what a crash lost came back:", p.d.Safe())
	}
	p.append(mixed(100, 6))
	p.crash(1, 1)
	if p.d.Safe() != 257 {
		t.Errorf("197 safe, 100 more, Crash(1, 1): %d safe; want 257", p.d.Safe())
	}
	p.cut(70)
	p.append(mixed(100, 7))
	p.crash(1, 1)
	if p.d.Safe() != 129 {
		t.Errorf("70 safe, 100 more, Crash(1, 1): %d safe; want 129", p.d.Safe())
	}
	p.goOn()
}

// some is a number that is small, or at an edge, or far, as chance has it.
func some(chance *rand.Rand, n int) int {
	switch far := extremes(); chance.IntN(12) {
	case 0:
		return far[chance.IntN(len(far))]
	case 1:
		return n + chance.IntN(3) - 1
	case 2:
		return chance.IntN(3) - 1
	}
	return chance.IntN(n + 1)
}

// length is how many bytes are to be written, seldom too many.
func length(chance *rand.Rand, room, size int) int {
	switch chance.IntN(8) {
	case 0:
		return room + chance.IntN(3)
	case 1:
		return chance.IntN(size + 2)
	case 2:
		return 0
	}
	return chance.IntN(min(room, 70) + 1)
}

// act makes a call as chance has it.
func (p *pair) act(chance *rand.Rand) {
	p.t.Helper()
	seed := chance.IntN(1000)
	switch chance.IntN(10) {
	case 0, 1, 2, 3:
		p.append(mixed(length(chance, p.m.size-len(p.m.row), p.m.size), seed))
	case 4, 5:
		p.sync()
	case 6:
		p.cut(some(chance, len(p.m.row)))
	case 7:
		if chance.IntN(3) == 0 {
			p.swap(mixed(length(chance, p.m.size, p.m.size), seed))
		}
	case 8:
		p.crash(some(chance, 3), some(chance, 64))
	case 9:
		p.crash(0, 0)
	}
}

// P11.1, P11.2: rows of calls as chance has them, each answer and all that is told behind each.
func TestByChance(t *testing.T) {
	chance := rand.New(rand.NewPCG(11, 1))
	for round := range 1500 {
		p := paired(t, round%9)
		for range 60 {
			p.act(chance)
		}
	}
}

// P11.3: behind any crash what was safe is there, all that is there is safe, and it is what was written; asked of the calls alone.
func TestSafeStays(t *testing.T) {
	chance := rand.New(rand.NewPCG(11, 3))
	kept, lost, torn := 0, 0, 0
	for round := range 1500 {
		p := paired(t, 1+round%8)
		for range 40 {
			if chance.IntN(3) == 0 {
				p.cut(p.m.safe / 2)
			}
			p.act(chance)
			p.append(mixed(chance.IntN(p.m.size-len(p.m.row)+1), chance.IntN(1000)))
			was, safe := string(p.d.Bytes()), p.d.Safe()
			p.d.Crash(chance.IntN(6)-3, some(chance, 64)*chance.IntN(2))
			now := string(p.d.Bytes())
			p.m.row, p.m.safe = now, p.d.Safe()
			if !strings.HasPrefix(now, was[:safe]) {
				t.Fatalf("%d bytes were safe; a crash left %d: %.40x", safe, len(now), now)
			}
			if p.d.Safe() != len(now) {
				t.Fatalf("a crash left %d bytes, of which %d are safe", len(now), p.d.Safe())
			}
			if !strings.HasPrefix(was, now) {
				t.Fatalf("a crash left what was not written: %.40x", now)
			}
			switch {
			case len(now) == safe && len(was) > safe:
				lost++
			case len(now) == len(was):
				kept++
			default:
				torn++
			}
		}
	}
	if kept < 1000 || lost < 1000 || torn < 1000 {
		t.Error("crashes that kept all, lost all that was not safe, and lost some of it:", kept, lost, torn)
	}
}

// P11.3: what was safe stays through many crashes, with bytes that are never synced between them.
func TestSafeStaysLong(t *testing.T) {
	chance := rand.New(rand.NewPCG(11, 33))
	d := disk.New(20)
	row := mixed(500, 11)
	d.Append([]byte(row))
	d.Sync()
	for range 2000 {
		d.Append([]byte(mixed(chance.IntN(300), 12)))
		d.Crash(chance.IntN(3)-1, chance.IntN(3)-1)
		if !strings.HasPrefix(string(d.Bytes()), row) || d.Safe() < 500 {
			t.Fatalf("of 500 bytes that were safe %d are", d.Safe())
		}
		if d.Room() < 300 {
			d.Cut(500)
		}
	}
}
