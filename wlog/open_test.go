package wlog_test

import (
	"slices"
	"strings"
	"testing"

	"usufruct/api"
	"usufruct/disk"
	"usufruct/wlog"
)

// four is a number's four bytes, the lowest first.
func four(n uint32) string {
	return string([]byte{byte(n), byte(n >> 8), byte(n >> 16), byte(n >> 24)})
}

// tornTails are bytes of which so many are missing that it can't be told whether they were to be a frame.
func tornTails() []string {
	all := []string{
		"", framed("another one")[:5], "\x01\x00\x00\x00abc", "\x01\x80\x00\x00\x00\x00\x00", "\xff\xff\xff\xff\xff\xff\xff", "no fram",
		four(1) + four(0), four(most) + four(0), four(most) + four(0) + mixed(100, 1), four(9) + "any sum, and", framed(mixed(most, 1))[:200],
	}
	for n := 1; n < head; n++ {
		for _, c := range []string{"\x00", "\x01", "\x80", "\xff"} {
			all = append(all, strings.Repeat(c, n))
		}
	}
	for _, p := range []string{"a", "ab", "\x00", framed("a"), mixed(40, 2), mixed(64, 3), mixed(300, 4)} {
		whole := framed(p)
		for _, n := range []int{4, 7, 8, len(whole) - 2, len(whole) - 1} {
			all = append(all, whole[:n])
		}
	}
	return append(all, framed("")[:7])
}

// badTails are bytes that no crash has left: with another sum, and of a length above 2^15; with bytes, and frames, behind them too.
func badTails() []string {
	all := []string{
		"no frame at all", "\x00\x00\x00\x00\x00\x00\x00\x01", "\x01\x00\x00\x00\x43\xbe\xb7\xe8b", "\x01\x00\x00\x00\xe8\xb7\xbe\x43a", "\x02\x00\x00\x00\x43\xbe\xb7\xe8ab",
		strings.Repeat("\xff", 8), strings.Repeat("\xff", 64), "\x00\x00\x00\x80" + four(0), framed(mixed(most+1, 1))[:100],
	}
	for _, long := range []uint32{most + 1, most + 2, 2*most - 1, 2 * most, 2*most + 1, 1<<24 - 1, 1 << 24, 1<<31 - 1, 1 << 31, 1<<31 + 1, 1<<32 - 8, 1<<32 - 1} {
		all = append(all, four(long)+four(0), four(long)+four(0)+mixed(100, 1))
	}
	for _, p := range []string{"", "a", "abc", mixed(40, 2), mixed(64, 3)} {
		for _, bit := range []int{32, 39, 40, 63} {
			b := []byte(framed(p))
			b[bit/8] ^= 1 << (bit % 8)
			all = append(all, string(b), string(b)+framed("a"), string(b)+framed("a")[:5])
		}
		if p != "" {
			b := []byte(framed(p))
			b[len(b)-1] ^= 0x10
			all = append(all, string(b), string(b)+rowOf("a", ""))
		}
	}
	return all
}

// safes are how many bytes of a row may be safe: none, all, and some between.
func safes(row string, end int) []int {
	all := []int{0, end / 2, end, (end + len(row)) / 2, len(row)}
	slices.Sort(all)
	return slices.Compact(all)
}

// P12.1: a disk of whole frames and a torn tail: the log of these frames' records; the tail is gone, and all is safe.
func TestOpenTorn(t *testing.T) {
	for _, list := range lists() {
		row := rowOf(list...)
		for _, tail := range tornTails() {
			for _, safe := range safes(row+tail, len(row)) {
				p := holding(t, 30, row+tail, safe)
				e := p.open()
				if e != api.OK || !slices.Equal(texts(p.l.All()), list) || string(p.d.Bytes()) != row || p.d.Safe() != len(row) {
					t.Fatalf("%.40q and a torn tail %.40x, %d safe: %d, %.40q, %d bytes, %d safe", list, tail, safe, e, p.l.All(), len(p.d.Bytes()), p.d.Safe())
				}
				p.goOn()
			}
		}
	}
}

// P12.1: a disk of whole frames and a bad tail: no log, and the disk as it is, what is safe of it too.
func TestOpenBad(t *testing.T) {
	for _, list := range lists() {
		row := rowOf(list...)
		for _, tail := range badTails() {
			for _, safe := range safes(row+tail, len(row)) {
				p := holding(t, 30, row+tail, safe)
				for range 2 {
					if e := p.open(); e != api.ErrSum || p.l != nil || string(p.d.Bytes()) != row+tail || p.d.Safe() != safe {
						t.Fatalf("%.40q and a bad tail %.40x, %d safe: %d, %d bytes, %d safe", list, tail, safe, e, len(p.d.Bytes()), p.d.Safe())
					}
				}
				p.append("a")
				p.compact()
				if e := p.crash(0, 0); e != api.OK && safe < len(row)+head {
					t.Fatalf("%.40q and a bad tail %.40x, crashed with %d safe: %d", list, tail, safe, e)
				}
			}
		}
	}
}

// P12.1: what is refused can be mended: with the bad tail cut off by whoever has the disk, the log opens.
func TestOpenMended(t *testing.T) {
	for _, tail := range badTails() {
		d := disk.New(30)
		d.Append([]byte(rowOf("a", "bc") + tail))
		if l, e := wlog.Open(d); l != nil || e != api.ErrSum {
			t.Fatalf("a bad tail %.40x: %d", tail, e)
		}
		d.Cut(len(rowOf("a", "bc")) + 7)
		if l, e := wlog.Open(d); e != api.OK || !slices.Equal(texts(l.All()), []string{"a", "bc"}) {
			t.Fatalf("a bad tail %.40x, cut to 7 bytes: %d", tail, e)
		}
	}
}

// P12.1: disks with bytes of no log: of one letter, of any, of zeros, which are frames of nothing, and of few letters at each length.
func TestOpenAny(t *testing.T) {
	for n := range 200 {
		for _, row := range []string{strings.Repeat("\x00", n), strings.Repeat("\x01", n), strings.Repeat("\xff", n), mixed(n, n), mixed(n, 3*n)} {
			p := holding(t, 4, row, n/2)
			e := p.open()
			switch {
			case row == strings.Repeat("\x00", n) && (e != api.OK || p.l.Len() != n/8 || len(p.d.Bytes()) != n/8*8):
				t.Fatalf("%d zeros: %d, %d records", n, e, p.l.Len())
			case n < head && (e != api.OK || p.l.Len() != 0 || len(p.d.Bytes()) != 0):
				t.Fatalf("%x: %d, %d records", row, e, p.l.Len())
			}
			p.goOn()
		}
	}
}

// P12.1: a row of frames that is cut off anywhere is opened: of all whole frames ahead of that.
func TestOpenCutOff(t *testing.T) {
	for _, list := range lists() {
		row := rowOf(list...)
		if len(row) > 700 {
			continue
		}
		n, end := 0, 0
		for cut := range len(row) + 1 {
			if n < len(list) && cut == end+head+len(list[n]) {
				end = cut
				n++
			}
			p := holding(t, 11, row[:cut], cut/3)
			if e := p.open(); e != api.OK || !slices.Equal(texts(p.l.All()), list[:n]) || len(p.d.Bytes()) != end {
				t.Fatalf("%.40q, cut off at %d: %d, %d records; want %d", list, cut, e, p.l.Len(), n)
			}
			p.append("behind")
			p.crash(0, 0)
		}
	}
}

// P12.1: opened again and again nothing changes; and each log goes on from what the last one had.
func TestOpenAgain(t *testing.T) {
	p := paired(t, 10)
	for k := range 20 {
		for range k % 3 {
			p.open()
		}
		p.append(mixed(k, k))
		if k%7 == 6 {
			p.compact()
		}
		p.open()
	}
	p.goOn()
}

// P12.1: long records on a disk, whole, with a byte of them missing, and with one turned; and a frame that is too long.
func TestOpenLong(t *testing.T) {
	long := mixed(most, 1)
	turned := []byte(framed(long))
	turned[most] ^= 1
	const sectors = 3 * most / sector
	for _, c := range []struct {
		row string
		n   int
		e   api.Errno
	}{
		{rowOf("a", long), 2, api.OK}, {rowOf("a", long, "b"), 3, api.OK}, {rowOf(long, long), 2, api.OK},
		{rowOf("a", long)[:most+16], 1, api.OK}, {rowOf(long, long)[:2*most+15], 1, api.OK}, {rowOf(long, long)[:most+9], 1, api.OK},
		{rowOf("a") + string(turned), 0, api.ErrSum}, {rowOf("a") + string(turned)[:most+7], 1, api.OK}, {string(turned) + rowOf("a"), 0, api.ErrSum},
		{rowOf("a") + framed(mixed(most+1, 1)), 0, api.ErrSum}, {rowOf("a") + framed(mixed(most+1, 1))[:8], 0, api.ErrSum}, {rowOf("a") + framed(mixed(most+1, 1))[:7], 1, api.OK},
	} {
		for _, safe := range []int{0, len(c.row) / 2, len(c.row)} {
			p := holding(t, sectors, c.row, safe)
			if e := p.open(); e != c.e || p.l.Len() != c.n {
				t.Errorf("%d bytes, %.20x: %d, %d records; want %d, %d", len(c.row), c.row, e, p.l.Len(), c.e, c.n)
			}
			if c.e == api.OK {
				p.goOn()
			}
		}
	}
}
