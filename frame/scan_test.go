package frame_test

import (
	"math/rand/v2"
	"slices"
	"strings"
	"testing"

	"usufruct/api"
	"usufruct/frame"
)

// scanned is what Scan is to tell by the words.
func scanned(b string) ([]string, int) {
	var all []string
	at := 0
	for {
		p, n, e := taken(b[at:])
		if e != api.OK {
			return all, at
		}
		all = append(all, p)
		at += n
	}
}

// texts are payloads as texts, to be held against others.
func texts(all [][]byte) []string {
	var told []string
	for _, p := range all {
		told = append(told, string(p))
	}
	return told
}

// scan holds Scan against the words, what is handed in against what it was, and what is told, put again, against what was gone through.
func scan(t *testing.T, b string) ([]string, int) {
	t.Helper()
	in := guarded(b)
	got, n := frame.Scan(in)
	list, m := scanned(b)
	if !slices.Equal(texts(got), list) || n != m {
		t.Fatalf("Scan of %d bytes, %.60x: %.60x, %d; want %.60x, %d", len(b), b, got, n, list, m)
	}
	var again []byte
	for _, p := range got {
		one, e := frame.Put(p)
		if e != api.OK {
			t.Fatalf("Put of %d bytes that Scan told: %d", len(p), e)
		}
		again = append(again, one...)
	}
	if string(again) != b[:n] {
		t.Fatalf("Scan of %d bytes, %.60x: put again it is %.60x", len(b), b, again)
	}
	if !untouched(in, b) {
		t.Fatalf("Scan of %d bytes, %.60x, has changed them", len(b), b)
	}
	return list, n
}

// rowOf is the frames of payloads, one behind the other.
func rowOf(list ...string) string {
	var b strings.Builder
	for _, p := range list {
		b.WriteString(framed(p))
	}
	return b.String()
}

// rows are payloads whose frames stand one behind the other: none, few, many, and those of no bytes at all places.
func rows() [][]string {
	return [][]string{
		nil, {""}, {"a"}, {"", ""}, {"a", ""}, {"", "a"}, {"a", "a"}, {"a", "b", "c"}, {"", "", ""}, {"ab", "", "", "c"},
		{framed("a"), "a", framed("")}, {mixed(most)}, {mixed(most), "", mixed(most - 1), "z"}, {"a", mixed(300), "\x00\x00\x00"}, plain(),
	}
}

// scanTails are bytes that are no frame, of each reason for which they are none.
func scanTails() []string {
	return []string{
		"", "\x00", "\x00\x00\x00\x00\x00\x00\x00", "\xff", framed("a")[:8], framed("abc")[:10], "no frame at all", "\x01\x00\x00\x00\x43\xbe\xb7\xe8b",
		"\x00\x00\x00\x00\x00\x00\x00\x01", "\x01\x80\x00\x00\x00\x00\x00\x00", "\xff\xff\xff\xff\xff\xff\xff\xff\xff", framed(mixed(most + 1)),
	}
}

// P9.2: rows of frames, and other bytes behind them.
func TestScan(t *testing.T) {
	for _, list := range rows() {
		row := rowOf(list...)
		for _, tail := range scanTails() {
			got, n := scan(t, row+tail)
			if !slices.Equal(got, list) || n != len(row) {
				t.Fatalf("frames of %.40x and %.20x behind them: %.40x, %d; want all, %d", list, tail, got, n, len(row))
			}
		}
	}
}

// P9.2: rows as they stand, worked out by hand; of nothing, none.
func TestScanByHand(t *testing.T) {
	const a, nothing = "\x01\x00\x00\x00\x43\xbe\xb7\xe8a", "\x00\x00\x00\x00\x00\x00\x00\x00"
	for _, c := range []struct {
		b    string
		want []string
		n    int
	}{
		{a, []string{"a"}, 9}, {a + a, []string{"a", "a"}, 18}, {a + a[:8], []string{"a"}, 9}, {a[:8], nil, 0}, {a[1:], nil, 0},
		{nothing, []string{""}, 8}, {nothing[:7], nil, 0}, {nothing + a + nothing + "\x00", []string{"", "a", ""}, 25},
		{"\x09\x00\x00\x00\x26\x39\xf4\xcb123456789" + a, []string{"123456789", "a"}, 26},
		{a + "?" + a, []string{"a"}, 9}, {"no frame at all", nil, 0},
	} {
		if got, n := frame.Scan([]byte(c.b)); !slices.Equal(texts(got), c.want) || n != c.n {
			t.Errorf("Scan(%x): %q, %d; want %q, %d", c.b, got, n, c.want, c.n)
		}
	}
	for _, none := range [][]byte{nil, {}} {
		if got, n := frame.Scan(none); len(got) != 0 || n != 0 {
			t.Errorf("Scan(%#v): %q, %d; want none, 0", none, got, n)
		}
	}
}

// P9.2: a row that is cut off anywhere: those frames are told that are whole, though the rest stands in the room behind the end.
func TestScanCutOff(t *testing.T) {
	for _, list := range [][]string{{"a", "", "bcd", "", "", mixed(40), "z"}, {"", "", ""}, {framed("a"), "a"}, {mixed(300), mixed(2)}} {
		row := []byte(rowOf(list...))
		whole, end := 0, 0
		for cut := range len(row) + 1 {
			if whole < len(list) && cut == end+8+len(list[whole]) {
				end = cut
				whole++
			}
			got, n := frame.Scan(row[:cut])
			if !slices.Equal(texts(got), list[:whole]) || n != end {
				t.Fatalf("frames of %q, cut off at %d: %q, %d; want %d of them, %d", list, cut, got, n, whole, end)
			}
			scan(t, string(row[:cut]))
		}
	}
}

// P9.2: where a frame between others is none, those ahead of it are told, and none behind it.
func TestScanTurned(t *testing.T) {
	list := []string{"a", "", "bcd", "xyz"}
	row := rowOf(list...)
	whole, end := 0, 0
	for at := range len(row) {
		if at == end+8+len(list[whole]) {
			end = at
			whole++
		}
		for bit := range 8 {
			b := []byte(row)
			b[at] ^= 1 << bit
			got, n := scan(t, string(b))
			if !slices.Equal(got, list[:whole]) || n != end {
				t.Fatalf("bit %d of byte %d turned: %q, %d; want %d of them, %d", bit, at, got, n, whole, end)
			}
		}
	}
}

// P9.2: many frames of no bytes, and many of few.
func TestScanMany(t *testing.T) {
	if got, n := frame.Scan(make([]byte, 8*100000+7)); len(got) != 100000 || n != 800000 {
		t.Errorf("Scan of 800007 times 0: %d payloads, %d; want 100000, 800000", len(got), n)
	}
	list := slices.Repeat([]string{"ab", "", "c"}, 5000)
	scan(t, rowOf(list...))
}

// P9.2: of what Scan tells each payload is memory of its own, and the list too.
func TestScanMemory(t *testing.T) {
	list := []string{"a", "bc", "", mixed(40), "", "a", mixed(300)}
	row := rowOf(list...)
	in := guarded(row)
	got, _ := frame.Scan(in)
	again, _ := frame.Scan(in)
	for i := range got {
		scribble(got[i])
		if !untouched(in, row) || !slices.Equal(texts(again), list) {
			t.Fatalf("payload %d shares what was handed in, or another answer", i)
		}
		if !slices.Equal(texts(got[i+1:]), list[i+1:]) {
			t.Fatalf("payload %d shares one behind it", i)
		}
	}
	whole := got[:cap(got)]
	for i := range whole {
		whole[i] = []byte("mine")
	}
	if !slices.Equal(texts(again), list) {
		t.Fatal("the list shares another answer")
	}
	scribble(in)
	if !slices.Equal(texts(again), list) {
		t.Fatal("what is told shares what was handed in")
	}
	for i := len(again) - 1; i >= 0; i-- {
		scribble(again[i])
		if !slices.Equal(texts(again[:i]), list[:i]) {
			t.Fatalf("payload %d shares one ahead of it", i)
		}
	}
}

// anyPayload is bytes of any length, as chance has it, short ones more often.
func anyPayload(chance *rand.Rand) string {
	p := make([]byte, chance.IntN(1+400>>chance.IntN(9)))
	for i := range p {
		p[i] = byte(chance.IntN(256) >> chance.IntN(9))
	}
	return string(p)
}

// P9.2, P9.3: rows as chance has them: whole, cut off, with other bytes between, and turned.
func TestScanByChance(t *testing.T) {
	chance := rand.New(rand.NewPCG(9, 3))
	for range 3000 {
		var list []string
		for range chance.IntN(12) {
			list = append(list, anyPayload(chance))
		}
		row := rowOf(list...)
		if got, n := scan(t, row); !slices.Equal(got, list) || n != len(row) {
			t.Fatalf("frames of %q: %q, %d", list, got, n)
		}
		scan(t, row[chance.IntN(len(row)+1):])
		scan(t, row[:chance.IntN(len(row)+1)])
		scan(t, row+anyPayload(chance)+row)
		b := []byte(row)
		for range chance.IntN(3) {
			if len(b) > 0 {
				b[chance.IntN(len(b))] = byte(chance.IntN(256))
			}
		}
		scan(t, string(b))
		take(t, string(b))
	}
}

// P9.2: all short rows of few letters: as no sum but that of nothing is made of these, frames of no bytes alone are found.
func TestShortRows(t *testing.T) {
	row := make([]byte, 12)
	for n := range 1 << 12 {
		for i := range row {
			row[i] = byte(n >> i & 1)
		}
		for size := range len(row) + 1 {
			scan(t, string(row[:size]))
			take(t, string(row[:size]))
		}
	}
}
