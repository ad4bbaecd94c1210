package wlog_test

import (
	"slices"
	"strings"
	"testing"

	"usufruct/api"
	"usufruct/disk"
	"usufruct/wlog"
)

// some are records of few and many bytes, and of none, at both ends too.
func some() []string {
	return []string{"", "a", "bc", "", mixed(40, 1), "a", mixed(300, 2), ""}
}

// ways are logs of the same records: as appended, and as opened.
func ways(t *testing.T) map[string]*pair {
	t.Helper()
	appended, reopened, read := laid(t, 20, some()...), laid(t, 20, some()...), holding(t, 20, rowOf(some()...), 0)
	reopened.open()
	read.open()
	return map[string]*pair{"appended": appended, "reopened": reopened, "read": read}
}

// P12.2: what is told stays as it was, whatever the log does from then on, and whatever is done with its disk.
func TestTold(t *testing.T) {
	for how, p := range ways(t) {
		all, last := p.l.All(), p.l.All()
		one, _ := p.l.Last()
		p.append("")
		p.append("more")
		two, _ := p.l.Last()
		p.compact()
		for p.append(mixed(60, 5)) == api.OK {
		}
		p.d.Swap([]byte(strings.Repeat("\xff", 20*sector)))
		if !slices.Equal(texts(all), some()) || !slices.Equal(texts(last), some()) || string(one) != "" || string(two) != "more" {
			t.Errorf("%s: what was told is now %.60q, %q, %q", how, all, one, two)
		}
	}
}

// P12.2: of what All tells each record is memory of its own, and so is the list; the log keeps none of it.
func TestAllMemory(t *testing.T) {
	for how, p := range ways(t) {
		got, again := p.l.All(), p.l.All()
		last, _ := p.l.Last()
		for i := range got {
			longer := append(got[i], "mine"...)
			scribble(longer)
			scribble(got[i])
			if !slices.Equal(texts(got[i+1:]), some()[i+1:]) || !slices.Equal(texts(again), some()) {
				t.Fatalf("%s: record %d shares another one, or another answer", how, i)
			}
			p.same("writing over a record")
		}
		for i := len(again) - 1; i >= 0; i-- {
			scribble(again[i])
			if !slices.Equal(texts(again[:i]), some()[:i]) {
				t.Fatalf("%s: record %d shares one ahead of it", how, i)
			}
		}
		scribbleAll(got)
		scribbleAll(again)
		if string(last) != "" {
			t.Fatalf("%s: what Last told is now %q", how, last)
		}
		p.same("writing over all")
		p.goOn()
	}
}

// P12.2: what Last tells is not the log's, nor All's, nor the next Last's: not where it came from Append, from Open, or from Compact.
func TestLastMemory(t *testing.T) {
	for _, b := range []string{"a", "abc", mixed(40, 1), mixed(100, 2)} {
		for k := range 4 {
			p := laid(t, 9, "x", b)
			if k%2 == 1 {
				p.open()
			}
			if k >= 2 {
				p.compact()
			}
			one, _ := p.l.Last()
			two, _ := p.l.Last()
			all := p.l.All()
			scribble(one)
			if string(two) != b || string(all[len(all)-1]) != b {
				t.Fatalf("%d bytes: Last shares another answer", len(b))
			}
			scribbleAll(all)
			if string(two) != b {
				t.Fatalf("%d bytes: All shares what Last tells", len(b))
			}
			scribble(two)
			p.same("writing over what Last told")
			p.goOn()
		}
	}
}

// P12.1: what is appended is left as it was, with the room behind its end, and not kept.
func TestHandedIn(t *testing.T) {
	for _, n := range []int{0, 1, 7, 8, 31, 32, 33, 64, 100, 1000} {
		p := laid(t, 40, "x")
		b := mixed(n, 1)
		in := guarded(b)
		if e := p.l.Append(in); e != api.OK || !untouched(in, b) {
			t.Fatalf("Append of %d bytes: %d", n, e)
		}
		last, _ := p.l.Last()
		scribble(in)
		if string(last) != b {
			t.Fatalf("what Last told of %d bytes shares what was handed in", n)
		}
		p.answer("Append, and writing over what was handed in", api.OK, p.m.append(b))
		p.open()
	}
}

// P12.1: what is refused is left as it was, too, and nothing has changed.
func TestRefused(t *testing.T) {
	p := laid(t, 2, "a", mixed(90, 1))
	for _, n := range []int{14, 64, 128, most, most + 1, 2 * most} {
		b := mixed(n, 2)
		in := guarded(b)
		want := api.ErrFull
		if n > most {
			want = api.ErrRange
		}
		if e := p.l.Append(in); e != want || !untouched(in, b) {
			t.Errorf("Append of %d bytes: %d; want %d", n, e, want)
		}
		p.look("what was refused")
	}
	p.crash(0, 0)
	if e := p.append(mixed(13, 3)); e != api.OK || p.d.Room() != 0 {
		t.Errorf("behind what was refused, a record that fills the disk: %d", e)
	}
	p.goOn()
}

// P12.1: one and the same bytes, appended to two logs, and twice to one: each has its own.
func TestSameBytes(t *testing.T) {
	in := guarded("one")
	a, b := laid(t, 2), laid(t, 2)
	for _, p := range []*pair{a, b, a} {
		p.answer("Append", p.l.Append(in), p.m.append("one"))
	}
	told := a.l.All()
	scribble(told[0])
	if string(told[1]) != "one" || !untouched(in, "one") {
		t.Errorf("appended twice: %q; %q was handed in", told, in)
	}
	scribble(in)
	a.same("writing over what was handed in")
	b.same("writing over what was handed in")
	a.compact()
	b.append("two")
	a.same("an append of another log")
	b.goOn()
	a.goOn()
}

// P12.1: a log takes its own records, as it told them, and those of another one.
func TestOwnRecords(t *testing.T) {
	p := laid(t, 3, "abc", "de")
	last, _ := p.l.Last()
	p.answer("Append of the last one", p.l.Append(last), p.m.append("de"))
	p.answer("Append of a piece", p.l.Append(p.l.All()[0][1:2]), p.m.append("b"))
	scribble(last)
	p.same("writing over it")
	other := laid(t, 3)
	for _, b := range p.l.All() {
		other.answer("Append of another one's", other.l.Append(b), other.m.append(string(b)))
	}
	p.goOn()
	other.goOn()
}

// P12.1, P12.2: what is answered hangs on the bytes handed in alone, not on their room.
func TestRoomCountsNot(t *testing.T) {
	for _, shape := range []func(b string) []byte{
		func(b string) []byte { return []byte(b) },
		guarded,
		func(b string) []byte { return append(make([]byte, 0, 2*most), b...) },
		func(b string) []byte { return slices.Clip([]byte(b)) },
	} {
		d := disk.New(2)
		l, _ := wlog.Open(d)
		var answers []api.Errno
		for _, n := range []int{0, 60, 45, 44, 0, most + 1} {
			answers = append(answers, l.Append(shape(mixed(n, n))))
		}
		full := api.ErrFull
		if !slices.Equal(answers, []api.Errno{0, 0, full, 0, full, api.ErrRange}) || d.Room() != 0 || l.Len() != 3 {
			t.Errorf("answers %v, room for %d", answers, d.Room())
		}
	}
}
