package wlog_test

import (
	"encoding/binary"
	"hash/crc32"
	"slices"
	"strings"
	"testing"

	"usufruct/api"
	"usufruct/disk"
	"usufruct/wlog"
)

const (
	sector = 64
	most   = 1 << 15 // bytes of a record
	head   = 8       // bytes of a frame ahead of its payload
	whole  = 1 << 20 // bytes of the greatest disk
)

// framed is a record's frame by the words, of one that is too long, too.
func framed(p string) string {
	b := binary.LittleEndian.AppendUint32(nil, uint32(len(p)))
	b = binary.LittleEndian.AppendUint32(b, crc32.ChecksumIEEE([]byte(p)))
	return string(b) + p
}

// rowOf is the frames of records, one behind the other.
func rowOf(list ...string) string {
	var b strings.Builder
	for _, p := range list {
		b.WriteString(framed(p))
	}
	return b.String()
}

// first is the payload of a row's first frame by the words, or why there is none.
func first(row string) (string, api.Errno) {
	if len(row) < head {
		return "", api.ErrShort
	}
	long := int(binary.LittleEndian.Uint32([]byte(row[:4])))
	switch {
	case long > most:
		return "", api.ErrRange
	case len(row)-head < long:
		return "", api.ErrShort
	case framed(row[head:head+long]) != row[:head+long]:
		return "", api.ErrSum
	}
	return row[head : head+long], api.OK
}

// split is the payloads of the whole frames with which a row begins, how many bytes these have, and why there is no further one.
func split(row string) ([]string, int, api.Errno) {
	var list []string
	end := 0
	for {
		p, e := first(row[end:])
		if e != api.OK {
			return list, end, e
		}
		list = append(list, p)
		end += head + len(p)
	}
}

// model is a disk and its log by the words.
type model struct {
	size int
	row  string
	safe int
	list []string
	is   bool // a log is open: else there is but a nil one
}

func (m *model) open() api.Errno {
	list, end, e := split(m.row)
	if e != api.ErrShort {
		m.list, m.is = nil, false
		return api.ErrSum
	}
	m.row, m.safe, m.list, m.is = m.row[:end], end, list, true
	return api.OK
}

func (m *model) append(b string) api.Errno {
	switch {
	case !m.is:
		return api.ErrArg
	case len(b) > most:
		return api.ErrRange
	case len(m.row)+len(framed(b)) > m.size:
		return api.ErrFull
	}
	m.row += framed(b)
	m.safe = len(m.row)
	m.list = append(slices.Clone(m.list), b)
	return api.OK
}

func (m *model) compact() api.Errno {
	if !m.is {
		return api.ErrArg
	}
	if len(m.list) > 0 {
		m.list = []string{m.list[len(m.list)-1]}
		m.row = framed(m.list[0])
		m.safe = len(m.row)
	}
	return api.OK
}

// behind stands in the room behind the end of what is handed in.
const behind = "\xa5\x5a\x03"

// guarded is b with room behind its end, in which something stands.
func guarded(b string) []byte {
	return []byte(b + behind)[:len(b)]
}

// untouched tells whether b, and the room behind it, are as guarded made them.
func untouched(b []byte, was string) bool {
	return string(b[:len(b)+len(behind)]) == was+behind
}

// scribble writes over a list, its spare room too.
func scribble(b []byte) {
	b = b[:cap(b)]
	for i := range b {
		b[i] ^= 0xff
	}
}

// scribbleAll writes over all lists of a list, and over that list.
func scribbleAll(all [][]byte) {
	all = all[:cap(all)]
	for i := range all {
		scribble(all[i])
		all[i] = []byte("mine")
	}
}

// texts are records as texts, to be held against others.
func texts(all [][]byte) []string {
	var told []string
	for _, p := range all {
		told = append(told, string(p))
	}
	return told
}

// mixed is n bytes of all values, in no plain order; of another seed they are others.
func mixed(n, seed int) string {
	row, last := make([]byte, n), seed+1
	for i := range row {
		last = (last*75 + 74) % 65537
		row[i] = byte(last >> 3)
	}
	return string(row)
}

// pair is a disk and its log, held against the model behind each call.
type pair struct {
	t *testing.T
	d *disk.Disk
	l *wlog.Log
	m model
}

// paired is an empty disk, and the log of it.
func paired(t *testing.T, sectors int) *pair {
	t.Helper()
	p := &pair{t: t, d: disk.New(sectors), m: model{size: sectors * sector}}
	p.open()
	return p
}

// laid is the log of a disk of records, for each of which there must be room.
func laid(t *testing.T, sectors int, list ...string) *pair {
	t.Helper()
	p := paired(t, sectors)
	for _, b := range list {
		if e := p.append(b); e != api.OK {
			t.Fatalf("a record of %d bytes: %d", len(b), e)
		}
	}
	return p
}

// holding is a disk with bytes, of which the first ones are safe, and no log.
func holding(t *testing.T, sectors int, row string, safe int) *pair {
	t.Helper()
	p := &pair{t: t, d: disk.New(sectors), m: model{size: sectors * sector}}
	p.write(row[:safe])
	p.d.Sync()
	p.write(row[safe:])
	p.m.safe = safe
	p.look("laying")
	return p
}

// write puts bytes on the disk that no log has written.
func (p *pair) write(b string) {
	p.t.Helper()
	if e := p.d.Append([]byte(b)); e != api.OK {
		p.t.Fatalf("%d bytes for a disk with room for %d: %d", len(b), p.d.Room(), e)
	}
	p.m.row += b
}

// same asks what the log tells, and what its disk does.
func (p *pair) same(behind string) {
	p.t.Helper()
	if got := texts(p.l.All()); !slices.Equal(got, p.m.list) {
		p.t.Fatalf("behind %s: %d records, %.60q; want %d, %.60q", behind, len(got), got, len(p.m.list), p.m.list)
	}
	if n := p.l.Len(); n != len(p.m.list) {
		p.t.Fatalf("behind %s: Len is %d; want %d", behind, n, len(p.m.list))
	}
	want, has := "", len(p.m.list) > 0
	if has {
		want = p.m.list[len(p.m.list)-1]
	}
	if last, is := p.l.Last(); string(last) != want || is != has {
		p.t.Fatalf("behind %s: Last is %.60q, %t; want %.60q, %t", behind, last, is, want, has)
	}
	if row := p.d.Bytes(); string(row) != p.m.row {
		p.t.Fatalf("behind %s: the disk has %d bytes, %.60x; want %d, %.60x", behind, len(row), row, len(p.m.row), p.m.row)
	}
	if n := p.d.Safe(); n != p.m.safe || p.d.Room() != p.m.size-len(p.m.row) {
		p.t.Fatalf("behind %s: %d bytes are safe, and room for %d; want %d, %d", behind, n, p.d.Room(), p.m.safe, p.m.size-len(p.m.row))
	}
}

// look asks twice, and between writes over what is told: asking has changed nothing, and what is told is not the log's.
func (p *pair) look(behind string) {
	p.t.Helper()
	p.same(behind)
	scribbleAll(p.l.All())
	last, _ := p.l.Last()
	scribble(last)
	p.same(behind + ", and writing over what was told")
}

// answer holds an error against the model's.
func (p *pair) answer(call string, got, want api.Errno) {
	p.t.Helper()
	if got != want {
		p.t.Fatalf("%s: %d; want %d", call, got, want)
	}
	p.look(call)
}

func (p *pair) open() api.Errno {
	p.t.Helper()
	l, e := wlog.Open(p.d)
	if (l == nil) != (e != api.OK) {
		p.t.Fatalf("Open: a log: %t, and %d", l != nil, e)
	}
	p.l = l
	p.answer("Open", e, p.m.open())
	return e
}

func (p *pair) append(b string) api.Errno {
	p.t.Helper()
	in := guarded(b)
	got := p.l.Append(in)
	if !untouched(in, b) {
		p.t.Fatalf("Append of %d bytes has changed them", len(b))
	}
	scribble(in)
	p.answer("Append", got, p.m.append(b))
	return got
}

func (p *pair) compact() api.Errno {
	p.t.Helper()
	got := p.l.Compact()
	p.answer("Compact", got, p.m.compact())
	return got
}

// crash lets the disk crash, and opens the log again; what the disk leaves is told by the disk.
func (p *pair) crash(sectors, torn int) api.Errno {
	p.t.Helper()
	p.d.Crash(sectors, torn)
	p.m.row, p.m.safe = string(p.d.Bytes()), p.d.Safe()
	return p.open()
}

// goOn does what a later call could tell by: a record too long, one of a byte too many for the room, one that fills it, a crash, a compact.
func (p *pair) goOn() {
	p.t.Helper()
	room := p.m.size - len(p.m.row) - head
	p.append(mixed(most+1, 6))
	p.append(mixed(max(room+1, 0), 7))
	p.append(mixed(max(room, 0), 8))
	p.append("")
	p.crash(0, 0)
	p.compact()
	p.append("go on")
	p.crash(9, 9)
}

// step is a call, what it is given, and what is told behind it.
type step struct {
	call string
	b    string
	n    int
	e    api.Errno
	list []string
	row  string
}

// do makes a step's call, of a log or its disk, and tells the log from then on.
func (s step) do(l *wlog.Log, d *disk.Disk) (*wlog.Log, api.Errno) {
	e := api.OK
	switch s.call {
	case "append":
		e = l.Append([]byte(s.b))
	case "compact":
		e = l.Compact()
	case "torn":
		d.Append([]byte(s.b))
		d.Crash(0, s.n)
		l, e = wlog.Open(d)
	case "open":
		l, e = wlog.Open(d)
	}
	return l, e
}

// P12.1, P12.2: a row of calls on a disk of one sector, worked out by hand.
func TestByHand(t *testing.T) {
	const a, nothing = "\x01\x00\x00\x00\x43\xbe\xb7\xe8a", "\x00\x00\x00\x00\x00\x00\x00\x00"
	const abc, digits = "\x03\x00\x00\x00\xc2\x41\x24\x35abc", "\x09\x00\x00\x00\x26\x39\xf4\xcb123456789"
	d := disk.New(1)
	l, e := wlog.Open(nil)
	if l != nil || e != api.ErrArg {
		t.Fatal("Open(nil):", l, e)
	}
	for i, s := range []step{
		{call: "open"},
		{call: "compact"},
		{call: "append", b: "a", list: []string{"a"}, row: a},
		{call: "append", list: []string{"a", ""}, row: a + nothing},
		{call: "append", b: mixed(40, 1), e: api.ErrFull, list: []string{"a", ""}, row: a + nothing},
		{call: "append", b: mixed(most+1, 1), e: api.ErrRange, list: []string{"a", ""}, row: a + nothing},
		{call: "append", b: "123456789", list: []string{"a", "", "123456789"}, row: a + nothing + digits},
		{call: "open", list: []string{"a", "", "123456789"}, row: a + nothing + digits},
		{call: "torn", b: abc, n: 5, list: []string{"a", "", "123456789"}, row: a + nothing + digits},
		{call: "torn", b: abc, n: 10, list: []string{"a", "", "123456789"}, row: a + nothing + digits},
		{call: "torn", b: abc, n: 0, list: []string{"a", "", "123456789"}, row: a + nothing + digits},
		{call: "torn", b: abc, n: 11, list: []string{"a", "", "123456789", "abc"}, row: a + nothing + digits + abc},
		{call: "append", b: "123456789012", e: api.ErrFull, list: []string{"a", "", "123456789", "abc"}, row: a + nothing + digits + abc},
		{call: "append", b: "abc", list: []string{"a", "", "123456789", "abc", "abc"}, row: a + nothing + digits + abc + abc},
		{call: "append", list: []string{"a", "", "123456789", "abc", "abc", ""}, row: a + nothing + digits + abc + abc + nothing},
		{call: "append", e: api.ErrFull, list: []string{"a", "", "123456789", "abc", "abc", ""}, row: a + nothing + digits + abc + abc + nothing},
		{call: "compact", list: []string{""}, row: nothing},
		{call: "open", list: []string{""}, row: nothing},
		{call: "append", b: "abc", list: []string{"", "abc"}, row: nothing + abc},
		{call: "compact", list: []string{"abc"}, row: abc},
		{call: "compact", list: []string{"abc"}, row: abc},
		{call: "append", b: "a", list: []string{"abc", "a"}, row: abc + a},
		{call: "open", list: []string{"abc", "a"}, row: abc + a},
	} {
		l, e = s.do(l, d)
		last, is := l.Last()
		if e != s.e || !slices.Equal(texts(l.All()), s.list) || l.Len() != len(s.list) || is != (len(s.list) > 0) || is && string(last) != s.list[len(s.list)-1] {
			t.Fatalf("step %d, %s: %d, %q, %d, %q, %t; want %d, %q", i, s.call, e, l.All(), l.Len(), last, is, s.e, s.list)
		}
		if string(d.Bytes()) != s.row || d.Safe() != len(s.row) {
			t.Fatalf("step %d, %s: the disk has %x, %d of it safe; want %x, all", i, s.call, d.Bytes(), d.Safe(), s.row)
		}
	}
}

// P12.1: two records on one sector: each number of bytes of the first, and of the second up to the byte that is too many, and beyond.
func TestRoom(t *testing.T) {
	for n := range sector - head + 1 {
		left := sector - 2*head - n
		for k := range sector + 1 {
			p := laid(t, 1, mixed(n, 1))
			want := api.OK
			if k > left {
				want = api.ErrFull
			}
			if e := p.append(mixed(k, 2)); e != want {
				t.Fatalf("%d bytes, and %d of another record: %d; want %d", n, k, e, want)
			}
			if k == left || k == left+1 {
				p.goOn()
			}
		}
	}
}

// P12.1: a disk of no room: no record, not even one of nothing.
func TestNoRoom(t *testing.T) {
	p := paired(t, 0)
	for _, n := range []int{0, 1, 56, most - 1, most} {
		if e := p.append(mixed(n, 1)); e != api.ErrFull {
			t.Errorf("Append of %d bytes to a disk of no sectors: %d", n, e)
		}
	}
	if e := p.append(mixed(most+1, 1)); e != api.ErrRange {
		t.Errorf("Append of too many bytes to a disk of no sectors: %d", e)
	}
	p.compact()
	p.goOn()
}

// P12.1: records as long as may be and nearly so, with room for these to the byte, with room for one byte less, and with more.
func TestLongRecord(t *testing.T) {
	for _, n := range []int{most - 1, most} {
		for _, more := range []int{-1, 0, 1, sector} {
			const sectors = (most+2*head)/sector + 3
			p := laid(t, sectors, mixed(sectors*sector-2*head-n-more, 1))
			want := api.OK
			if more < 0 {
				want = api.ErrFull
			}
			if e := p.append(mixed(n, 2)); e != want {
				t.Errorf("a record of %d bytes, with room for its frame and %d: %d; want %d", n, more, e, want)
			}
			p.goOn()
		}
	}
}

// P12.1: a record that is too long is told so, though there be no room for it, by one byte and by many.
func TestTooLong(t *testing.T) {
	for _, sectors := range []int{0, 1, 513, 2000} {
		p := paired(t, sectors)
		p.append("abc")
		for _, n := range []int{most + 1, most + 2, most + 8, 2*most - 1, 2 * most, 2*most + 1, whole - head, whole, whole + 1} {
			if e := p.append(mixed(n, 1)); e != api.ErrRange {
				t.Errorf("Append of %d bytes to a disk of %d sectors: %d", n, sectors, e)
			}
		}
		p.goOn()
	}
}

// lists are records of a log: none, one, many, those of nothing at all places, and such as look like frames.
func lists() [][]string {
	return [][]string{
		nil, {""}, {"a"}, {"", ""}, {"a", ""}, {"", "a"}, {"a", "a"}, {"a", "b", "c"}, {"", "", "", ""}, {"ab", "", "", "c"},
		{framed("a"), "a", framed("")}, {framed("ab")[:9], "\x00\x00\x00", strings.Repeat("\x00", 40)},
		{mixed(54, 1), mixed(55, 2), mixed(56, 3), mixed(57, 4), mixed(120, 5)}, {mixed(300, 1), "z", mixed(301, 2)},
		slices.Repeat([]string{"x", "", "yz"}, 12),
	}
}

// P12.1, P12.2: lists of records, appended one by one, each on a disk with room, and on one that they fill; opened again, and compacted.
func TestLists(t *testing.T) {
	for _, list := range lists() {
		size := len(rowOf(list...))
		for _, sectors := range []int{(size + sector - 1) / sector, size/sector + 1, size/sector + 20} {
			laid(t, sectors, list...).goOn()
			p := laid(t, sectors, list...)
			p.open()
			p.goOn()
			p = laid(t, sectors, list...)
			p.crash(0, 0)
			p.goOn()
			p = laid(t, sectors, list...)
			p.compact()
			p.goOn()
		}
	}
}

// P12.2: a compact where no record is, one, and many, of each length of the last one; on a full disk, and with room; then it can be filled again.
func TestCompact(t *testing.T) {
	for _, list := range [][]string{nil, {"a"}, {"", "ab", ""}, {mixed(20, 1), "x"}} {
		for n := range 2*sector - len(rowOf(list...)) - head + 1 {
			last := mixed(n, 9)
			p := laid(t, 2, append(slices.Clone(list), last)...)
			p.compact()
			if string(p.d.Bytes()) != framed(last) || p.d.Safe() != len(framed(last)) || !slices.Equal(texts(p.l.All()), []string{last}) {
				t.Fatalf("%d records, the last of %d bytes, compacted: %q", len(list)+1, n, p.l.All())
			}
			p.compact()
			p.crash(0, 0)
			p.compact()
			p.goOn()
		}
	}
	for _, sectors := range []int{0, 1, 2} {
		p := paired(t, sectors)
		for range 3 {
			if e := p.compact(); e != api.OK || len(p.d.Bytes()) != 0 || p.l.Len() != 0 {
				t.Errorf("a compact of no record: %d, %d bytes", e, len(p.d.Bytes()))
			}
		}
		p.goOn()
	}
}

// P12.2: a disk that is full to the byte, compacted, has room again, and is filled again, many times.
func TestCompactAgain(t *testing.T) {
	p := paired(t, 3)
	for k := range 30 {
		for n := k; p.append(mixed(n%57, n)) == api.OK; n += 7 {
		}
		p.append(mixed(max(p.d.Room()-head, 0), k))
		p.compact()
		if k%4 == 0 {
			p.crash(k, k)
		}
		if p.l.Len() != 1 {
			t.Fatalf("round %d: %d records", k, p.l.Len())
		}
	}
}

// P12.1, P12.2: nil and empty records are the same: a record of nothing.
func TestNilRecord(t *testing.T) {
	for _, none := range [][]byte{nil, {}, make([]byte, 0, 9)} {
		p := laid(t, 1, "a")
		p.answer("Append of none", p.l.Append(none), p.m.append(""))
		if last, is := p.l.Last(); len(last) != 0 || !is || p.l.Len() != 2 {
			t.Errorf("a record of %#v: %x, %t", none, last, is)
		}
		p.crash(0, 0)
		p.compact()
		p.answer("Append of none", p.l.Append(none), p.m.append(""))
		p.goOn()
	}
}

// P12.2: a nil Log, of every call, tells ErrArg, none, or 0, whatever it is given.
func TestNilLog(t *testing.T) {
	var l *wlog.Log
	for _, b := range []string{"", "a", mixed(most, 1), mixed(most+1, 1)} {
		in := guarded(b)
		if e := l.Append(in); e != api.ErrArg || !untouched(in, b) {
			t.Errorf("Append of %d bytes to a nil Log: %d", len(b), e)
		}
		if e := l.Compact(); e != api.ErrArg {
			t.Errorf("Compact of a nil Log: %d", e)
		}
		last, is := l.Last()
		if len(last) != 0 || is || len(l.All()) != 0 || l.Len() != 0 {
			t.Errorf("a nil Log: %x, %t, %x, %d", last, is, l.All(), l.Len())
		}
	}
	if e := l.Append(nil); e != api.ErrArg {
		t.Errorf("Append of none to a nil Log: %d", e)
	}
}

// P12.1: a nil disk has no log.
func TestNilDisk(t *testing.T) {
	for _, d := range []*disk.Disk{nil, disk.New(-1), disk.New(1<<14 + 1)} {
		if l, e := wlog.Open(d); l != nil || e != api.ErrArg {
			t.Errorf("Open of a nil Disk: a log: %t, and %d", l != nil, e)
		}
	}
}

// P12.1, P12.2: the greatest disk, full of records as long as may be, and of records of nothing.
func TestGreatest(t *testing.T) {
	p := paired(t, 1<<14)
	for k := range whole / (most + head) {
		if e := p.append(mixed(most, k)); e != api.OK {
			t.Fatalf("record %d: %d", k, e)
		}
	}
	if e := p.append(mixed(most, 0)); e != api.ErrFull {
		t.Error("one record too many:", e)
	}
	p.goOn()
	d := disk.New(1 << 14)
	l, _ := wlog.Open(d)
	for range whole / head {
		if l.Append(nil) != api.OK {
			t.Fatal("a record of nothing, behind", l.Len())
		}
	}
	again, e := wlog.Open(d)
	if e != api.OK || l.Append(nil) != api.ErrFull || again.Append(nil) != api.ErrFull || l.Len() != whole/head || again.Len() != whole/head || len(again.All()) != whole/head || d.Safe() != whole {
		t.Error("a disk full of records of nothing:", e, l.Len(), again.Len(), d.Safe())
	}
	if again.Compact() != api.OK || again.Len() != 1 || len(d.Bytes()) != head {
		t.Error("compacted:", again.Len(), len(d.Bytes()))
	}
}
