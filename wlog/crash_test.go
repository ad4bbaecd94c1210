package wlog_test

import (
	"math"
	"math/rand/v2"
	"slices"
	"strings"
	"testing"

	"usufruct/api"
	"usufruct/disk"
	"usufruct/wlog"
)

// extremes are numbers that are negative, and beyond all that a disk has.
func extremes() []int {
	return []int{
		-1, -64, -1 << 14, -1 << 20, -1 << 31, -1 << 57, -1 << 58, -1 << 62, math.MinInt + 1, math.MinInt,
		1 << 14, 1<<20 + 1, 1 << 31, 1<<32 + 1, 1 << 57, 1 << 58, 1<<58 + 1, 1 << 62, math.MaxInt - 64, math.MaxInt - 1, math.MaxInt,
	}
}

// opened is the records of a disk, which must be such that a log of it opens.
func opened(t *testing.T, d *disk.Disk) []string {
	t.Helper()
	l, e := wlog.Open(d)
	if e != api.OK {
		t.Fatalf("Open: %d, of %d bytes, %.80x", e, len(d.Bytes()), d.Bytes())
	}
	return texts(l.All())
}

// P12.3: what was told to be there is there behind any crash, though nothing was done since: the greatest losses too.
func TestToldStays(t *testing.T) {
	for _, list := range lists() {
		for _, sectors := range append(extremes(), 0, 1, 2) {
			for _, torn := range []int{0, 1, 63, -1, math.MinInt, math.MaxInt} {
				p := laid(t, 20, list...)
				p.d.Crash(sectors, torn)
				if got := opened(t, p.d); !slices.Equal(got, list) {
					t.Fatalf("Crash(%d, %d) of %.40q: %.40q", sectors, torn, list, got)
				}
			}
		}
	}
}

// P12.3: the same of each record as soon as it is told to be there, and of a compact.
func TestToldAtOnce(t *testing.T) {
	d := disk.New(40)
	l, _ := wlog.Open(d)
	var told []string
	for k := range 40 {
		b := mixed(k*3%70, k)
		if l.Append([]byte(b)) != api.OK {
			t.Fatal("no room for record", k)
		}
		told = append(told, b)
		if k%9 == 8 {
			l.Compact()
			told = told[len(told)-1:]
		}
		d.Crash(0, 0)
		if got := opened(t, d); !slices.Equal(got, told) {
			t.Fatalf("record %d: behind a crash %q; want %q", k, got, told)
		}
		if k%2 == 1 {
			l, _ = wlog.Open(d)
		}
	}
}

// P12.3: a record that is being written while the disk crashes: so much of it as was written, and so much of that as is left: it is there whole, or not at all.
func TestBeingWritten(t *testing.T) {
	for _, ahead := range []int{0, 1, 40, 47, 48, 49, 55, 56, 57, 100} {
		for _, n := range []int{0, 1, 30, 64, 130} {
			told, next := []string{"a", mixed(ahead, 1)}, mixed(n, 2)
			whole := framed(next)
			for written := range len(whole) + 1 {
				for _, lost := range [][2]int{{0, 0}, {0, 1}, {0, 7}, {0, 8}, {0, len(whole) - 1}, {0, len(whole)}, {1, 0}, {1, 3}, {2, 0}, {9, 9}, {-1, 5}, {math.MaxInt, 0}, {0, math.MaxInt}} {
					p := laid(t, 6, told...)
					p.write(whole[:written])
					p.d.Crash(lost[0], lost[1])
					want := told
					if len(p.d.Bytes()) == len(rowOf(told...))+len(whole) {
						want = append(slices.Clone(told), next)
					}
					p.m.row, p.m.safe = string(p.d.Bytes()), p.d.Safe()
					if e := p.open(); e != api.OK || !slices.Equal(texts(p.l.All()), want) {
						t.Fatalf("%d of %d bytes, Crash(%d, %d): %d, %.40q; want %.40q", written, len(whole), lost[0], lost[1], e, p.l.All(), want)
					}
				}
			}
		}
	}
}

// P12.3: behind such a crash the log goes on where it was: what was torn is not in the way.
func TestBeingWrittenGoesOn(t *testing.T) {
	p := laid(t, 20, "a")
	told := []string{"a"}
	for k := range 150 {
		p.write(framed(mixed(k, 9))[:min(k, p.d.Room())])
		p.crash(k%3, k%5)
		b := mixed(k%13, k)
		if p.append(b) == api.ErrFull {
			p.compact()
			p.append(b)
			told = told[len(told)-1:]
		}
		told = append(told, b)
		p.crash(0, 0)
		if !slices.Equal(texts(p.l.All()), told) {
			t.Fatalf("round %d: %q; want %q", k, p.l.All(), told)
		}
	}
}

// P12.3: whole frames that were never synced, as of a record whose Append did not end, may stay; from when they are opened on they do.
func TestOpenedStays(t *testing.T) {
	for _, tail := range []string{"", framed("torn")[:9]} {
		p := holding(t, 3, rowOf("a", "b", "c")+tail, 0)
		p.open()
		p.crash(0, 0)
		if !slices.Equal(texts(p.l.All()), []string{"a", "b", "c"}) {
			t.Errorf("records that Open told are lost: %q", p.l.All())
		}
	}
}

// act makes a call as chance has it.
func (p *pair) act(chance *rand.Rand) {
	p.t.Helper()
	room := p.m.size - len(p.m.row)
	seed := chance.IntN(1000)
	switch chance.IntN(14) {
	case 0:
		p.append(mixed(max(room-head+chance.IntN(3)-1, 0), seed))
	case 1:
		p.append(strings.Repeat("\x00", chance.IntN(20)))
	case 2:
		p.append(mixed(most+chance.IntN(3)-1, seed))
	case 3:
		p.compact()
	case 4:
		p.open()
	case 5, 6:
		p.write(framed(mixed(seed%100, seed))[:chance.IntN(min(room, seed%100+head)+1)])
		far := extremes()
		lost := []int{0, 0, 1, 2, chance.IntN(70), far[seed%len(far)]}
		p.crash(lost[chance.IntN(len(lost))], lost[chance.IntN(len(lost))])
	default:
		p.append(mixed(chance.IntN(50)>>chance.IntN(6), seed))
	}
}

// P12.1, P12.2: rows of calls as chance has them, each answer and all that is told behind each.
func TestByChance(t *testing.T) {
	chance := rand.New(rand.NewPCG(12, 1))
	for round := range 600 {
		p := paired(t, round%14)
		for range 50 {
			p.act(chance)
		}
	}
}

// P12.1, P12.2: many logs, each on its own disk, of which each goes its own way, call by call in turn, as if it were alone.
func TestManyLogs(t *testing.T) {
	chance := rand.New(rand.NewPCG(12, 2))
	for range 60 {
		var all []*pair
		for k := range 5 {
			all = append(all, paired(t, 2*k+1))
		}
		for range 100 {
			all[chance.IntN(len(all))].act(chance)
			for _, p := range all {
				p.same("a call of another log")
			}
		}
	}
}

// P12.3: rows of appends and compacts as chance has them, crashes among these, held against the records that were told to be there alone.
func TestToldByChance(t *testing.T) {
	chance := rand.New(rand.NewPCG(12, 3))
	torn, came := 0, 0
	for round := range 800 {
		d := disk.New(2 + round%10)
		l, _ := wlog.Open(d)
		var told []string
		for range 30 {
			b := mixed(chance.IntN(60), chance.IntN(1000))
			switch e := l.Append([]byte(b)); {
			case e == api.OK:
				told = append(told, b)
			case len(told) > 0:
				l.Compact()
				told = told[len(told)-1:]
			}
			if chance.IntN(3) > 0 {
				continue
			}
			next := mixed(chance.IntN(60), chance.IntN(1000))
			d.Append([]byte(framed(next))[:chance.IntN(len(framed(next))+1)])
			d.Crash(chance.IntN(3)-1, chance.IntN(70)-1)
			got := opened(t, d)
			switch {
			case slices.Equal(got, told):
				torn++
			case slices.Equal(got, append(slices.Clone(told), next)):
				came++
			default:
				t.Fatalf("%q were told to be there; behind a crash: %q", told, got)
			}
			told = got
			l, _ = wlog.Open(d)
		}
	}
	if torn < 500 || came < 50 {
		t.Error("crashes behind which a record was not there, and was:", torn, came)
	}
}
