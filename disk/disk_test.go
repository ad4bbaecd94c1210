package disk_test

import (
	"math"
	"testing"

	"usufruct/api"
	"usufruct/disk"
)

const (
	sector = 64
	most   = 1 << 14
	whole  = 1 << 20
)

// model is a disk by the words: a text, of which the first bytes are safe.
type model struct {
	size int
	row  string
	safe int
}

func (m *model) append(b string) api.Errno {
	if len(m.row)+len(b) > m.size {
		return api.ErrFull
	}
	m.row += b
	return api.OK
}

func (m *model) cut(n int) api.Errno {
	for k := range len(m.row) + 1 {
		if k == n {
			m.row = m.row[:k]
			if m.safe > k {
				m.safe = k
			}
			return api.OK
		}
	}
	return api.ErrArg
}

func (m *model) swap(b string) api.Errno {
	if len(b) > m.size {
		return api.ErrFull
	}
	m.row, m.safe = b, len(b)
	return api.OK
}

// crash goes from byte to byte: first through those within the sectors, then through those that are torn.
func (m *model) crash(sectors, torn int) {
	end := m.safe
	for end < len(m.row) && end/sector-m.safe/sector < sectors {
		end++
	}
	for end < len(m.row) && torn > 0 {
		end++
		torn--
	}
	m.row, m.safe = m.row[:end], end
}

// behind stands in the room behind the end of what is handed in.
const behind = "\xa5\x5a\x03"

// guarded is b with room behind its end, in which something stands.
func guarded(b string) []byte {
	return []byte(b + behind)[:len(b)]
}

// untouched tells whether b, and the room behind it, are as guarded made them.
func untouched(b []byte, was string) bool {
	return string(b[:len(b)+len(behind)]) == was+behind
}

// scribble writes over a list, its spare room too.
func scribble(b []byte) {
	b = b[:cap(b)]
	for i := range b {
		b[i] ^= 0xff
	}
}

// mixed is n bytes of all values, in no plain order; of another seed they are others.
func mixed(n, seed int) string {
	row, last := make([]byte, n), seed+1
	for i := range row {
		last = (last*75 + 74) % 65537
		row[i] = byte(last >> 3)
	}
	return string(row)
}

// pair is a disk, held against the model behind each call.
type pair struct {
	t *testing.T
	d *disk.Disk
	m model
}

// paired is a new disk of sectors that may be.
func paired(t *testing.T, sectors int) *pair {
	t.Helper()
	d := disk.New(sectors)
	if d == nil {
		t.Fatalf("New(%d): nil", sectors)
	}
	p := &pair{t, d, model{size: sectors * sector}}
	p.look("New")
	return p
}

// laid is a disk with bytes, of which the first ones are safe.
func laid(t *testing.T, sectors, safe, all int) *pair {
	t.Helper()
	p := paired(t, sectors)
	row := mixed(all, all)
	p.append(row[:safe])
	p.sync()
	p.append(row[safe:])
	return p
}

// same asks what the disk tells.
func (p *pair) same(behind string) {
	p.t.Helper()
	if got := p.d.Bytes(); string(got) != p.m.row {
		p.t.Fatalf("behind %s: %d bytes, %.40x; want %d, %.40x", behind, len(got), got, len(p.m.row), p.m.row)
	}
	if n := p.d.Safe(); n != p.m.safe {
		p.t.Fatalf("behind %s: %d are safe; want %d", behind, n, p.m.safe)
	}
	if n := p.d.Room(); n != p.m.size-len(p.m.row) {
		p.t.Fatalf("behind %s: room for %d; want %d", behind, n, p.m.size-len(p.m.row))
	}
}

// look asks what the disk tells, and again behind writing over it: asking has changed nothing, and what is told is not the disk's.
func (p *pair) look(behind string) {
	p.t.Helper()
	p.same(behind)
	scribble(p.d.Bytes())
	p.same(behind + ", and writing over what was told")
}

// answer holds an error against the model's.
func (p *pair) answer(call string, got, want api.Errno) {
	p.t.Helper()
	if got != want {
		p.t.Fatalf("%s: %d; want %d", call, got, want)
	}
	p.look(call)
}

// given asks that what was handed in is as it was, and then writes over it, for the disk is not to have kept it.
func (p *pair) given(call string, in []byte, b string) {
	p.t.Helper()
	if !untouched(in, b) {
		p.t.Fatalf("%s of %d bytes has changed them", call, len(b))
	}
	scribble(in)
}

func (p *pair) append(b string) api.Errno {
	p.t.Helper()
	in := guarded(b)
	got := p.d.Append(in)
	p.given("Append", in, b)
	p.answer("Append", got, p.m.append(b))
	return got
}

func (p *pair) swap(b string) api.Errno {
	p.t.Helper()
	in := guarded(b)
	got := p.d.Swap(in)
	p.given("Swap", in, b)
	p.answer("Swap", got, p.m.swap(b))
	return got
}

func (p *pair) cut(n int) api.Errno {
	p.t.Helper()
	got := p.d.Cut(n)
	p.answer("Cut", got, p.m.cut(n))
	return got
}

func (p *pair) sync() {
	p.t.Helper()
	p.d.Sync()
	p.m.safe = len(p.m.row)
	p.look("Sync")
}

func (p *pair) crash(sectors, torn int) {
	p.t.Helper()
	p.d.Crash(sectors, torn)
	p.m.crash(sectors, torn)
	p.look("Crash")
}

// goOn does what a later call could tell by: the disk fills to its end, and no further; a crash leaves what was safe.
func (p *pair) goOn() {
	p.t.Helper()
	room := p.m.size - len(p.m.row)
	p.append(mixed(room+1, 7))
	p.append(mixed(room, 8))
	p.append("x")
	p.crash(0, 0)
	p.append(mixed(p.m.size-len(p.m.row), 9))
	p.sync()
	p.crash(0, 0)
}

// upTo are those of numbers that are from 0 up to n.
func upTo(n int, numbers ...int) []int {
	var all []int
	for _, k := range numbers {
		if k >= 0 && k <= n {
			all = append(all, k)
		}
	}
	return all
}

// ends are places in n bytes: at both ends, and at the ends of sectors, on both sides of these.
func ends(n int) []int {
	all := upTo(n, 0, 1, 2, 62, 63, 64, 65, 126, 127, 128, 129, 190, 191)
	for _, k := range []int{n - 65, n - 64, n - 63, n - 1, n} {
		if k > 191 {
			all = append(all, k)
		}
	}
	return all
}

// extremes are numbers that are negative, beyond all that a disk has, and such as wrap round where they are made sectors' bytes, or put together.
func extremes() []int {
	return []int{
		-1, -2, -63, -64, -65, -most, -whole, -1 << 31, -1 << 57, -1 << 58, -1 << 62, math.MinInt + 1, math.MinInt,
		whole + 1, whole * 2, 1 << 25, 1 << 26, 1 << 31, 1<<32 - 1, 1 << 32, 1<<32 + 1,
		1<<57 - 1, 1 << 57, 1<<57 + 1, 1<<58 - 1, 1 << 58, 1<<58 + 1, 1 << 59, 1 << 62, math.MaxInt / 2,
		math.MaxInt - whole, math.MaxInt - 192, math.MaxInt - 64, math.MaxInt - 63, math.MaxInt - 1, math.MaxInt,
	}
}

// Limits of the tests' own must be the program's.
func TestLimits(t *testing.T) {
	if disk.Sector != sector || api.MaxDisk != whole || most*sector != whole {
		t.Error("limits:", disk.Sector, api.MaxDisk, most)
	}
}

// P11.1: disks of each number of sectors at an edge, and none of more or fewer.
func TestNew(t *testing.T) {
	for _, n := range []int{0, 1, 2, 3, 63, 64, 65, 1000, most/2 - 1, most / 2, most - 1, most} {
		d := disk.New(n)
		if d == nil {
			t.Fatalf("New(%d): nil", n)
		}
		if len(d.Bytes()) != 0 || d.Safe() != 0 || d.Room() != n*64 {
			t.Errorf("New(%d): %d bytes, %d safe, room for %d; want 0, 0, %d", n, len(d.Bytes()), d.Safe(), d.Room(), n*64)
		}
	}
	for _, n := range append(extremes(), most+1, most+2, 2*most, whole) {
		if d := disk.New(n); d != nil {
			t.Errorf("New(%d): a disk with room for %d; want nil", n, d.Room())
		}
	}
}

// step is a call, what it is given, and what is told behind it.
type step struct {
	call        string
	b           string
	n, torn     int
	e           api.Errno
	row         string
	safe, empty int
}

// do makes a step's call.
func (s step) do(d *disk.Disk) api.Errno {
	switch s.call {
	case "append":
		return d.Append([]byte(s.b))
	case "swap":
		return d.Swap([]byte(s.b))
	case "cut":
		return d.Cut(s.n)
	case "sync":
		d.Sync()
	case "crash":
		d.Crash(s.n, s.torn)
	}
	return api.OK
}

// P11.1, P11.2: a row of calls on a disk of one sector, worked out by hand.
func TestByHand(t *testing.T) {
	full := mixed(64, 1)
	d := disk.New(1)
	for i, s := range []step{
		{call: "append", empty: 64},
		{call: "sync", empty: 64},
		{call: "append", b: "abc", row: "abc", empty: 61},
		{call: "sync", row: "abc", safe: 3, empty: 61},
		{call: "sync", row: "abc", safe: 3, empty: 61},
		{call: "append", b: "de", row: "abcde", safe: 3, empty: 59},
		{call: "cut", n: 6, e: api.ErrArg, row: "abcde", safe: 3, empty: 59},
		{call: "cut", n: -1, e: api.ErrArg, row: "abcde", safe: 3, empty: 59},
		{call: "cut", n: 5, row: "abcde", safe: 3, empty: 59},
		{call: "cut", n: 4, row: "abcd", safe: 3, empty: 60},
		{call: "cut", n: 2, row: "ab", safe: 2, empty: 62},
		{call: "append", b: "xyz", row: "abxyz", safe: 2, empty: 59},
		{call: "crash", torn: 1, row: "abx", safe: 3, empty: 61},
		{call: "append", b: full[:62], e: api.ErrFull, row: "abx", safe: 3, empty: 61},
		{call: "append", b: full[:61], row: "abx" + full[:61], safe: 3},
		{call: "append", b: "y", e: api.ErrFull, row: "abx" + full[:61], safe: 3},
		{call: "append", row: "abx" + full[:61], safe: 3},
		{call: "swap", b: full + "y", e: api.ErrFull, row: "abx" + full[:61], safe: 3},
		{call: "crash", n: -1, torn: -1, row: "abx", safe: 3, empty: 61},
		{call: "swap", b: full, row: full, safe: 64},
		{call: "crash", row: full, safe: 64},
		{call: "cut", n: 64, row: full, safe: 64},
		{call: "cut", n: 65, e: api.ErrArg, row: full, safe: 64},
		{call: "swap", empty: 64},
		{call: "crash", n: 9, torn: 9, empty: 64},
		{call: "swap", b: "hello", row: "hello", safe: 5, empty: 59},
		{call: "append", b: "!!", row: "hello!!", safe: 5, empty: 57},
		{call: "crash", n: 1, row: "hello!!", safe: 7, empty: 57},
		{call: "append", b: "??", row: "hello!!??", safe: 7, empty: 55},
		{call: "crash", n: -9, torn: 1, row: "hello!!?", safe: 8, empty: 56},
		{call: "cut", empty: 64},
		{call: "cut", empty: 64},
		{call: "cut", n: 1, e: api.ErrArg, empty: 64},
	} {
		e := s.do(d)
		if got := d.Bytes(); e != s.e || string(got) != s.row || d.Safe() != s.safe || d.Room() != s.empty {
			t.Fatalf("step %d, %s: %d, %q, %d safe, room for %d; want %d, %q, %d, %d", i, s.call, e, got, d.Safe(), d.Room(), s.e, s.row, s.safe, s.empty)
		}
	}
}

// P11.1: an append of nothing, of few bytes, of as many as there is room for, of more, on disks that are empty, in part full, and full.
func TestAppend(t *testing.T) {
	for _, sectors := range []int{0, 1, 2, 3, 5} {
		size := sectors * sector
		for _, all := range ends(size) {
			for _, safe := range ends(all) {
				room := size - all
				for _, n := range append(ends(room), room+1, room+2, room+63, room+64, room+65, size+1, 2*size+1) {
					p := laid(t, sectors, safe, all)
					if e := p.append(mixed(n, 3)); (e == api.OK) != (n <= room) {
						t.Fatalf("%d bytes of %d, and %d: %d", all, size, n, e)
					}
					p.goOn()
				}
			}
		}
	}
}

// P11.1: bytes that come one by one, and in pieces of other lengths, up to the end.
func TestAppendPieces(t *testing.T) {
	for _, n := range []int{1, 2, 3, 7, 63, 64, 65, 100, 191} {
		p := paired(t, 3)
		for at := 0; p.append(mixed(n, at)) == api.OK; at++ {
			if at%3 == 1 {
				p.sync()
			}
		}
		if left := p.d.Room(); left >= n || left != 192%n {
			t.Errorf("pieces of %d: room for %d is left", n, left)
		}
		p.goOn()
	}
}

// P11.1: a sync where nothing is there, where nothing is safe, where some is, and where all is.
func TestSync(t *testing.T) {
	for _, all := range ends(192) {
		for _, safe := range ends(all) {
			p := laid(t, 3, safe, all)
			p.sync()
			p.sync()
			p.crash(0, 0)
			p.goOn()
		}
	}
	for _, n := range []int{0, 1, most} {
		p := paired(t, n)
		p.sync()
		p.crash(n, n)
	}
}

// P11.1: a cut at each place of a disk's bytes, and beside both ends.
func TestCut(t *testing.T) {
	for _, all := range ends(192) {
		for _, safe := range ends(all) {
			for n := -2; n <= all+2; n++ {
				p := laid(t, 3, safe, all)
				if e := p.cut(n); (e == api.OK) != (n >= 0 && n <= all) {
					t.Fatalf("Cut(%d) of %d bytes: %d", n, all, e)
				}
				p.append("between")
				p.crash(0, 0)
			}
			for _, n := range []int{0, safe - 1, safe, safe + 1, all, all + 1, 192, 193} {
				p := laid(t, 3, safe, all)
				p.cut(n)
				p.goOn()
			}
		}
	}
}

// P11.1: cuts far from what is there: negative and huge ones; the disk's room counts for nothing.
func TestCutFar(t *testing.T) {
	for _, sectors := range []int{0, 1, 3, 100} {
		for _, all := range upTo(sectors*sector, 0, 1, 64, 100) {
			p := laid(t, sectors, all/2, all)
			for _, n := range append(extremes(), all+1, all+64, sectors*sector+1, most+1, whole) {
				if e := p.cut(n); e != api.ErrArg {
					t.Fatalf("Cut(%d) of %d bytes: %d; want %d", n, all, e, api.ErrArg)
				}
			}
			p.goOn()
		}
	}
}

// P11.1: what was cut off does not come back: not by an append of nothing, a sync or a crash.
func TestCutStays(t *testing.T) {
	p := laid(t, 2, 10, 120)
	p.cut(64)
	p.append("")
	p.crash(9, 999)
	p.cut(5)
	p.sync()
	p.crash(9, 999)
	if p.cut(6) != api.ErrArg || p.d.Room() != 123 {
		t.Error("bytes that were cut off came back:", p.d.Room())
	}
	p.append("new")
	p.goOn()
}

// P11.1: swaps of nothing, of few bytes, of a whole disk, and of more, whatever was there.
func TestSwap(t *testing.T) {
	for _, sectors := range []int{0, 1, 2, 3} {
		size := sectors * sector
		for _, all := range ends(size) {
			for _, safe := range ends(all) {
				for _, n := range append(ends(size), size+1, size+2, size+63, size+64, 2*size+1) {
					p := laid(t, sectors, safe, all)
					if e := p.swap(mixed(n, 4)); (e == api.OK) != (n <= size) {
						t.Fatalf("Swap of %d bytes, %d on a disk of %d: %d", n, all, size, e)
					}
					p.goOn()
				}
			}
		}
	}
}

// P11.1: one swap behind another: what is there is safe, and nothing of what was there is left.
func TestSwapAgain(t *testing.T) {
	p := laid(t, 3, 5, 190)
	for _, n := range []int{192, 10, 0, 64, 192, 1, 191} {
		p.swap(mixed(n, n))
		p.crash(0, 0)
		p.crash(3, 3)
		if p.d.Safe() != n || p.cut(n+1) != api.ErrArg {
			t.Fatalf("behind a swap of %d bytes: %d safe", n, p.d.Safe())
		}
	}
	p.goOn()
}

// P11.1: bytes far longer than a disk, and than the greatest one.
func TestTooLong(t *testing.T) {
	for _, sectors := range []int{0, 1, 3} {
		for _, n := range []int{whole - 1, whole, whole + 1, 2*whole + 1} {
			p := laid(t, sectors, sectors*20, sectors*50)
			if p.append(mixed(n, 1)) != api.ErrFull || p.swap(mixed(n, 2)) != api.ErrFull {
				t.Fatalf("%d bytes went on a disk of %d sectors", n, sectors)
			}
			p.goOn()
		}
	}
}

// P11.1: the greatest disk, up to its end.
func TestGreatest(t *testing.T) {
	p := paired(t, most)
	p.append(mixed(whole-1, 1))
	p.sync()
	for _, c := range []struct {
		n int
		e api.Errno
	}{{2, api.ErrFull}, {0, api.OK}, {1, api.OK}, {1, api.ErrFull}, {0, api.OK}, {whole, api.ErrFull}} {
		if e := p.append(mixed(c.n, 2)); e != c.e {
			t.Fatalf("Append of %d bytes: %d; want %d", c.n, e, c.e)
		}
	}
	p.crash(0, 0)
	if p.d.Safe() != whole-1 {
		t.Error("a crash left", p.d.Safe())
	}
	if p.swap(mixed(whole+1, 3)) != api.ErrFull || p.swap(mixed(whole, 4)) != api.OK || p.swap(mixed(whole+1, 5)) != api.ErrFull {
		t.Error("Swap")
	}
	if p.cut(whole+1) != api.ErrArg || p.cut(whole) != api.OK || p.cut(whole-64) != api.OK || p.d.Safe() != whole-64 {
		t.Error("Cut")
	}
	p.goOn()
}

// P11.1: nil bytes are as empty ones, on a disk with room and on one without.
func TestNilBytes(t *testing.T) {
	for _, sectors := range []int{0, 1, 2} {
		for _, none := range [][]byte{nil, {}, make([]byte, 0, 9)} {
			p := laid(t, sectors, sectors*10, sectors*64)
			p.answer("Append of none", p.d.Append(none), p.m.append(""))
			p.answer("Swap of none", p.d.Swap(none), p.m.swap(""))
			p.answer("Append of none", p.d.Append(none), p.m.append(""))
			p.goOn()
		}
	}
}

// P11.2: a nil Disk, of every call: nothing is there, and nothing goes.
func TestNilDisk(t *testing.T) {
	empty := func(d *disk.Disk) {
		t.Helper()
		if len(d.Bytes()) != 0 || d.Safe() != 0 || d.Room() != 0 {
			t.Errorf("a nil Disk: %d bytes, %d safe, room for %d", len(d.Bytes()), d.Safe(), d.Room())
		}
	}
	for _, d := range []*disk.Disk{nil, disk.New(-1), disk.New(most + 1), disk.New(math.MinInt)} {
		empty(d)
		for _, b := range []string{"", "a", mixed(64, 1), mixed(whole, 1), mixed(whole+1, 1)} {
			in := guarded(b)
			if e := d.Append(in); e != api.ErrArg {
				t.Errorf("Append of %d bytes to a nil Disk: %d", len(b), e)
			}
			if e := d.Swap(in); e != api.ErrArg {
				t.Errorf("Swap of %d bytes on a nil Disk: %d", len(b), e)
			}
			if !untouched(in, b) {
				t.Errorf("a nil Disk has changed %d bytes", len(b))
			}
			empty(d)
		}
		if d.Append(nil) != api.ErrArg || d.Swap(nil) != api.ErrArg {
			t.Error("a nil Disk takes no bytes")
		}
		for _, n := range append(extremes(), 0, 1, 64) {
			if e := d.Cut(n); e != api.ErrArg {
				t.Errorf("Cut(%d) of a nil Disk: %d", n, e)
			}
			d.Crash(n, 0)
			d.Crash(0, n)
			d.Crash(n, n)
		}
		d.Sync()
		empty(d)
	}
}
