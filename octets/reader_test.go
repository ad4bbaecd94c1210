package octets_test

import (
	"math"
	"strconv"
	"strings"
	"testing"

	"usufruct/api"
	"usufruct/octets"
)

// reading is a reader by the words: all bytes, where it is, and the first error.
type reading struct {
	all string
	at  int
	err api.Errno
}

// next is the number whose bytes begin at the front of s, and how many they are, by the words.
func next(s string) (int, int, api.Errno) {
	size := 0
	for {
		if size == len(s) {
			return 0, 0, api.ErrShort
		}
		size++
		if s[size-1] < 128 {
			break
		}
	}
	if size > 6 || size > 1 && s[size-1] == 0 {
		return 0, 0, api.ErrForm
	}
	bits := ""
	for i := range size {
		c := strconv.FormatInt(int64(s[i])+256, 2)
		bits = c[len(c)-7:] + bits
	}
	u, _ := strconv.ParseInt(bits, 2, 64)
	n := int(u) / 2
	if strings.HasSuffix(bits, "1") {
		n = -n - 1
	}
	if n < -most || n > most {
		return 0, 0, api.ErrRange
	}
	return n, size, api.OK
}

func (r *reading) number() int {
	if r.err != api.OK {
		return 0
	}
	n, size, e := next(r.all[r.at:])
	r.at += size
	r.err = e
	return n
}

func (r *reading) count(limit int) int {
	n := r.number()
	if r.err == api.OK && (n < 0 || n > limit) {
		r.err, n = api.ErrRange, 0
	}
	return n
}

func (r *reading) text(limit int) string {
	n := r.count(limit)
	if r.err != api.OK {
		return ""
	}
	if len(r.all)-r.at < n {
		r.err = api.ErrShort
		return ""
	}
	r.at += n
	return r.all[r.at-n : r.at]
}

func (r *reading) end() api.Errno {
	if r.err == api.OK && r.at < len(r.all) {
		return api.ErrMore
	}
	return r.err
}

// limits are mosts: ordinary ones, the edges, and those that let nothing through.
func limits() []int {
	return []int{0, 1, 2, 4, 5, 63, 64, 127, 128, 300, most - 1, most, most + 1, math.MaxInt, -1, -2, -most, math.MinInt}
}

// pair is a reader, and what the words say of it.
type pair struct {
	t    *testing.T
	r    *octets.Reader
	want *reading
}

func both(t *testing.T, row string) pair {
	return pair{t, octets.New(guarded(row)), &reading{all: row}}
}

// sides holds Err and End against the words; they are asked twice, as asking changes nothing.
func (p pair) sides(what string) {
	p.t.Helper()
	for range 2 {
		if e, end := p.r.Err(), p.r.End(); e != p.want.err || end != p.want.end() {
			p.t.Fatalf("%x at %d, behind %s: Err %d, End %d; want %d, %d", p.want.all, p.want.at, what, e, end, p.want.err, p.want.end())
		}
	}
}

func (p pair) number() {
	p.t.Helper()
	if got, want := p.r.Number(), p.want.number(); got != want {
		p.t.Fatalf("%x: Number %d; want %d, and %d", p.want.all, got, want, p.want.err)
	}
	p.sides("Number")
}

func (p pair) count(limit int) {
	p.t.Helper()
	if got, want := p.r.Count(limit), p.want.count(limit); got != want {
		p.t.Fatalf("%x: Count(%d) %d; want %d, and %d", p.want.all, limit, got, want, p.want.err)
	}
	p.sides("Count")
}

func (p pair) text(limit int) {
	p.t.Helper()
	if got, want := p.r.Text(limit), p.want.text(limit); got != want {
		p.t.Fatalf("%x: Text(%d) %x; want %x, and %d", p.want.all, limit, got, want, p.want.err)
	}
	p.sides("Text")
}

// rows are bytes: of numbers and texts, and of no such thing.
func rows() []string {
	all := []string{
		"", "\x00", "\x01", "\x02", "\x7e", "\x7f", "\x80", "\xff", "\x80\x00", "\xff\x00", "\x80\x80\x00", "\x81\x80\x00",
		"\x80\x80\x80\x80\x80\x00", "\xff\xff\xff\xff\xff\x00", "\x80\x80\x80\x80\x80\x80\x00", "\x80\x80\x80\x80\x80\x80\x01",
		"\x80\x80\x80\x80\x80\x80", "\x80\x80\x80\x80\x80\x80\x80", "\xff\xff\xff\xff\xff\xff\xff\xff\xff\xff\xff",
		"\x80\x80\x80\x80\x80\x40", "\x81\x80\x80\x80\x80\x40", "\x82\x80\x80\x80\x80\x40", "\x80\x80\x80\x80\x80\x41", "\x80\x80\x80\x80\x80\x7f", "\xff\xff\xff\xff\xff\x7f",
		"\xff\xff\xff\xff\xff\x3f", "\xfe\xff\xff\xff\xff\x3f", "\x04abc", "\x04ab", "\x04a", "\x04", "\x06ab", "\x80\x01" + strings.Repeat("q", 63), "\x80\x01" + strings.Repeat("q", 64), "\x80\x01" + strings.Repeat("q", 65),
		strings.Repeat("\x80", 1<<16), strings.Repeat("\x80", 1<<16) + "\x01", strings.Repeat("\x00", 1000),
	}
	for _, n := range edges() {
		all = append(all, digits(n), digits(n)+"\x02", digits(n)+"\x80\x00\x02", digits(n)+digits(-n))
	}
	for _, s := range texts() {
		all = append(all, digits(len(s))+s, digits(len(s))+s+"\x00", digits(len(s)+1)+s)
	}
	return all
}

// P8.2: what is read, told by hand: numbers, bytes that end too early, too many, and those of no number.
func TestNumbersByHand(t *testing.T) {
	for _, c := range []struct {
		row []byte
		n   int
		e   api.Errno
	}{
		{[]byte{0}, 0, api.OK}, {[]byte{1}, -1, api.OK}, {[]byte{2}, 1, api.OK}, {[]byte{128, 1}, 64, api.OK},
		{[]byte{126}, 63, api.OK}, {[]byte{127}, -64, api.OK}, {[]byte{129, 1}, -65, api.OK},
		{[]byte{128, 128, 128, 128, 128, 64}, most, api.OK}, {[]byte{255, 255, 255, 255, 255, 63}, -most, api.OK},
		{nil, 0, api.ErrShort}, {[]byte{}, 0, api.ErrShort}, {[]byte{128}, 0, api.ErrShort}, {[]byte{255, 255}, 0, api.ErrShort}, {[]byte{128, 128, 128, 128, 128, 128}, 0, api.ErrShort},
		{[]byte{128, 0}, 0, api.ErrForm}, {[]byte{255, 0}, 0, api.ErrForm}, {[]byte{129, 128, 0}, 0, api.ErrForm}, {[]byte{128, 128, 128, 128, 128, 0}, 0, api.ErrForm},
		{[]byte{128, 128, 128, 128, 128, 128, 1}, 0, api.ErrForm}, {[]byte{128, 128, 128, 128, 128, 128, 0}, 0, api.ErrForm},
		{[]byte{255, 255, 255, 255, 255, 255, 127}, 0, api.ErrForm}, {[]byte{128, 128, 128, 128, 128, 128, 128, 1}, 0, api.ErrForm},
		{[]byte{130, 128, 128, 128, 128, 64}, 0, api.ErrRange}, {[]byte{129, 128, 128, 128, 128, 64}, 0, api.ErrRange}, {[]byte{255, 255, 255, 255, 255, 127}, 0, api.ErrRange}, {[]byte{128, 128, 128, 128, 128, 65}, 0, api.ErrRange},
	} {
		r := octets.New(c.row)
		if n := r.Number(); n != c.n || r.Err() != c.e || r.End() != c.e {
			t.Errorf("%v: %d, %d, End %d; want %d, %d", c.row, n, r.Err(), r.End(), c.n, c.e)
		}
	}
}

// P8.2: numbers one behind the other, of all rows, till an error is told, and behind it.
func TestReaderNumber(t *testing.T) {
	for _, row := range rows() {
		p := both(t, row)
		p.sides("New")
		for range min(len(row), 40) + 2 {
			p.number()
		}
	}
}

// P8.2: bytes that end too early, at each byte.
func TestEndsTooEarly(t *testing.T) {
	for _, n := range edges() {
		row := digits(n)
		for size := range len(row) {
			r := octets.New([]byte(row)[:size])
			if got := r.Number(); got != 0 || r.Err() != api.ErrShort || r.End() != api.ErrShort {
				t.Errorf("%x: %d, %d", row[:size], got, r.Err())
			}
		}
	}
	row := digits(130) + strings.Repeat("t", 130)
	for size := range len(row) {
		r := octets.New([]byte(row)[:size])
		if got := r.Text(130); got != "" || r.Err() != api.ErrShort || r.End() != api.ErrShort {
			t.Errorf("%x: %q, %d", row[:size], got, r.Err())
		}
	}
}

// P8.2: all limits, of all rows.
func TestReaderCount(t *testing.T) {
	for _, row := range rows() {
		for _, limit := range limits() {
			p := both(t, row)
			p.count(limit)
			p.count(limit)
			p.number()
		}
	}
}

// P8.2: of just most, and of one more; of what is below 0; and of a most that lets nothing through.
func TestCountByHand(t *testing.T) {
	for _, n := range []int{0, 1, 63, 64, 1 << 15, most - 1, most} {
		for _, c := range []struct {
			limit, want int
			e           api.Errno
		}{{n, n, api.OK}, {n + 1, n, api.OK}, {math.MaxInt, n, api.OK}, {n - 1, 0, api.ErrRange}, {-1, 0, api.ErrRange}, {-most, 0, api.ErrRange}, {math.MinInt, 0, api.ErrRange}} {
			r := octets.New([]byte(digits(n)))
			if got := r.Count(c.limit); got != c.want || r.Err() != c.e || r.End() != c.e {
				t.Errorf("%d: Count(%d) %d, %d; want %d, %d", n, c.limit, got, r.Err(), c.want, c.e)
			}
		}
	}
	for _, n := range []int{-1, -64, -65, -most} {
		for _, limit := range limits() {
			r := octets.New([]byte(digits(n)))
			if got := r.Count(limit); got != 0 || r.Err() != api.ErrRange {
				t.Errorf("%d: Count(%d) %d, %d", n, limit, got, r.Err())
			}
		}
	}
}

// P8.2: all limits, of all rows; a text, and what is behind it.
func TestReaderText(t *testing.T) {
	for _, row := range rows() {
		for _, limit := range append(limits(), 8191, 1<<15-1, 1<<15) {
			p := both(t, row)
			p.text(limit)
			p.number()
			p.text(limit)
		}
	}
}

// P8.2: texts of just most bytes, and of one more; and of which bytes are missing.
func TestTextByHand(t *testing.T) {
	for _, size := range []int{0, 1, 127, 128} {
		s := strings.Repeat("s", size)
		row := string(octets.Text(nil, s))
		for _, c := range []struct {
			row   string
			limit int
			want  string
			e     api.Errno
		}{
			{row, size, s, api.OK}, {row, size + 1, s, api.OK}, {row, math.MaxInt, s, api.OK},
			{row, size - 1, "", api.ErrRange}, {row, -1, "", api.ErrRange}, {row, math.MinInt, "", api.ErrRange},
			{digits(size+1) + s, size + 1, "", api.ErrShort}, {digits(size+1) + s, size, "", api.ErrRange},
			{digits(most) + s, most, "", api.ErrShort}, {digits(most) + s, math.MaxInt, "", api.ErrShort}, {digits(-1) + s, size, "", api.ErrRange},
		} {
			r := octets.New([]byte(c.row))
			if got := r.Text(c.limit); got != c.want || r.Err() != c.e || r.End() != c.e {
				t.Errorf("%x: Text(%d) %q, %d; want %q, %d", c.row, c.limit, got, r.Err(), c.want, c.e)
			}
		}
	}
}

// Where two errors could be told, the first one that the words name.
func TestFirstOfTwo(t *testing.T) {
	for _, c := range []struct {
		what, row string
		read      func(*octets.Reader)
		e         api.Errno
	}{
		{"too early, and more than 6", strings.Repeat("\x80", 7), func(r *octets.Reader) { r.Number() }, api.ErrShort},
		{"too early, and many more than 6", strings.Repeat("\xff", 70), func(r *octets.Reader) { r.Number() }, api.ErrShort},
		{"more than 6, and beyond 2^40", "\xff\xff\xff\xff\xff\xff\x7f", func(r *octets.Reader) { r.Number() }, api.ErrForm},
		{"more than 6, and the last is 0", "\x80\x80\x80\x80\x80\x80\x00", func(r *octets.Reader) { r.Number() }, api.ErrForm},
		{"too early, and a most below 0", "", func(r *octets.Reader) { r.Count(-1) }, api.ErrShort},
		{"no number's, and a most below 0", "\x80\x00", func(r *octets.Reader) { r.Count(-1) }, api.ErrForm},
		{"too early, and a most below 0, of a text", "\x80", func(r *octets.Reader) { r.Text(-1) }, api.ErrShort},
		{"no number's, of a text", "\x82\x00", func(r *octets.Reader) { r.Text(0) }, api.ErrForm},
		{"above most, and bytes are missing", "\x06ab", func(r *octets.Reader) { r.Text(2) }, api.ErrRange},
		{"below 0, and no bytes", "\x01", func(r *octets.Reader) { r.Text(2) }, api.ErrRange},
		{"bytes are missing, and bytes are left", "\x06ab", func(r *octets.Reader) { r.Text(3) }, api.ErrShort},
	} {
		r := octets.New([]byte(c.row))
		c.read(r)
		if r.Err() != c.e || r.End() != c.e {
			t.Errorf("%s: Err %d, End %d; want %d", c.what, r.Err(), r.End(), c.e)
		}
	}
}

// silent fails if any call tells anything but 0, nothing and the first error.
func silent(t *testing.T, what string, r *octets.Reader, e api.Errno) {
	t.Helper()
	calls := []func() bool{
		func() bool { return r.Number() == 0 },
		func() bool { return r.Count(math.MaxInt) == 0 },
		func() bool { return r.Count(-1) == 0 },
		func() bool { return r.Text(math.MaxInt) == "" },
		func() bool { return r.Text(math.MinInt) == "" },
		func() bool { return r.Err() == e },
		func() bool { return r.End() == e },
	}
	for i, first := range calls {
		for j, second := range calls {
			if !first() || !second() || r.Err() != e || r.End() != e {
				t.Errorf("behind %s: calls %d, %d: Err %d, End %d; want %d", what, i, j, r.Err(), r.End(), e)
			}
		}
	}
}

// P8.2: behind each error of each call, all of them, though what could be read comes behind.
func TestBehindAnError(t *testing.T) {
	good := string(octets.Text(octets.Number(octets.Number(nil, 3), -70), "text"))
	for _, c := range []struct {
		what, row string
		read      func(*octets.Reader)
		e         api.Errno
	}{
		{"Number, too early", "\x80", func(r *octets.Reader) { r.Number() }, api.ErrShort},
		{"Number, of nothing", "", func(r *octets.Reader) { r.Number() }, api.ErrShort},
		{"Number, 7 bytes", "\x80\x80\x80\x80\x80\x80\x01" + good, func(r *octets.Reader) { r.Number() }, api.ErrForm},
		{"Number, the last is 0", "\x80\x00" + good, func(r *octets.Reader) { r.Number() }, api.ErrForm},
		{"Number, beyond 2^40", "\x82\x80\x80\x80\x80\x40" + good, func(r *octets.Reader) { r.Number() }, api.ErrRange},
		{"Number, beyond -2^40", "\x81\x80\x80\x80\x80\x40" + good, func(r *octets.Reader) { r.Number() }, api.ErrRange},
		{"Count, too early", "", func(r *octets.Reader) { r.Count(5) }, api.ErrShort},
		{"Count, the last is 0", "\xff\x00" + good, func(r *octets.Reader) { r.Count(5) }, api.ErrForm},
		{"Count, below 0", "\x01" + good, func(r *octets.Reader) { r.Count(5) }, api.ErrRange},
		{"Count, above most", "\x0c" + good, func(r *octets.Reader) { r.Count(5) }, api.ErrRange},
		{"Text, too early", "\xff", func(r *octets.Reader) { r.Text(5) }, api.ErrShort},
		{"Text, the last is 0", "\xff\x00" + good, func(r *octets.Reader) { r.Text(5) }, api.ErrForm},
		{"Text, below 0", "\x01" + good, func(r *octets.Reader) { r.Text(5) }, api.ErrRange},
		{"Text, above most", "\x0c" + good, func(r *octets.Reader) { r.Text(5) }, api.ErrRange},
		{"Text, bytes are missing", "\x0a" + "\x02\x02\x02\x02", func(r *octets.Reader) { r.Text(5) }, api.ErrShort},
	} {
		for _, front := range []string{"", good} {
			r := octets.New([]byte(front + c.row))
			if front != "" && (r.Number() != 3 || r.Number() != -70 || r.Text(4) != "text") {
				t.Fatalf("%s: what was put ahead of it is not read", c.what)
			}
			c.read(r)
			silent(t, c.what, r, c.e)
		}
	}
}

// P8.2: a nil Reader tells ErrShort, and a Reader of nothing is at its end till it is asked for more.
func TestNoReader(t *testing.T) {
	silent(t, "nil", nil, api.ErrShort)
	for _, b := range [][]byte{nil, {}, guarded("")} {
		r := octets.New(b)
		if r == nil {
			t.Fatalf("New(%v): nil", b)
		}
		if r.Err() != api.OK || r.End() != api.OK {
			t.Errorf("New(%v): Err %d, End %d", b, r.Err(), r.End())
		}
		for _, ask := range []func(*octets.Reader){
			func(r *octets.Reader) { r.Number() },
			func(r *octets.Reader) { r.Count(9) },
			func(r *octets.Reader) { r.Text(0) },
		} {
			r := octets.New(b)
			ask(r)
			silent(t, "nothing", r, api.ErrShort)
		}
	}
}

// P8.2: End tells that bytes are left, and that is no error: what is left can still be read.
func TestEnd(t *testing.T) {
	r := octets.New([]byte("\x02\x04ab\x05"))
	for i, ask := range []func() bool{
		func() bool { return r.Number() == 1 },
		func() bool { return r.Text(2) == "ab" },
		func() bool { return r.Number() == -3 },
	} {
		if r.End() != api.ErrMore || r.Err() != api.OK || r.End() != api.ErrMore {
			t.Errorf("ahead of call %d: End %d, Err %d", i, r.End(), r.Err())
		}
		if !ask() {
			t.Errorf("call %d, behind End", i)
		}
	}
	if r.End() != api.OK || r.Err() != api.OK {
		t.Errorf("at the end: End %d, Err %d", r.End(), r.Err())
	}
	if r.Number() != 0 || r.End() != api.ErrShort {
		t.Errorf("behind the end: End %d", r.End())
	}
}

// P8.2: a reader neither changes the bytes, nor keeps them, nor reads the room behind them.
func TestReaderMemory(t *testing.T) {
	row := string(octets.Number(octets.Text(octets.Number(nil, 1000), "kept"), -2))
	in := guarded(row)
	quiet, loud := octets.New(in), octets.New(in)
	if quiet.Number() != 1000 || quiet.Text(9) != "kept" || quiet.Number() != -2 || quiet.End() != api.OK {
		t.Error("what was put is not read")
	}
	if !untouched(in, row) {
		t.Errorf("a reader has changed its bytes: %x", in[:cap(in)])
	}
	if n := loud.Number(); n != 1000 {
		t.Errorf("another reader: %d", n)
	}
	scribble(in)
	if loud.Text(9) != "kept" || loud.Number() != -2 || loud.End() != api.OK {
		t.Error("a reader reads what was written over its bytes behind New")
	}
	r := octets.New([]byte("\x80\x01")[:1])
	if r.Number() != 0 || r.Err() != api.ErrShort {
		t.Error("a number is read from the room behind the end")
	}
	r = octets.New([]byte("\x06abc")[:3])
	if r.Text(3) != "" || r.Err() != api.ErrShort {
		t.Error("a text is read from the room behind the end")
	}
}
