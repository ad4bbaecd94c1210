package wire_test

import (
	"math/rand/v2"
	"slices"
	"strings"
	"testing"

	"usufruct/api"
	"usufruct/field"
	"usufruct/octets"
	"usufruct/wire"
)

// vector reads the numbers of a vector by the words.
func vector(r *octets.Reader) (v api.Vec) {
	for i := range 16 {
		v[i] = r.Number()
	}
	return v
}

func bothRights(r *octets.Reader) (s api.Rights) {
	s.Given = vector(r)
	s.Used = vector(r)
	for i := range 16 {
		s.Moved[i] = vector(r)
	}
	return s
}

// decoded is what Decode is to tell by the words.
func decoded(b string) (int, api.Field, api.Errno) {
	var f api.Field
	r := octets.New([]byte(b))
	version := r.Number()
	if r.Err() == api.OK && !isFormat(version) {
		return 0, f, api.ErrVersion
	}
	f.Kind = r.Number()
	f.Name = r.Text(8)
	if version == 3 {
		f.Epoch = r.Number()
	}
	if f.Kind == 1 {
		f.Counter.Init = r.Number()
		f.Counter.Low = r.Number()
		f.Counter.High = r.Number()
		f.Counter.Down = bothRights(r)
		f.Counter.Up = bothRights(r)
		if version > 1 {
			n := r.Count(16)
			for range n {
				var h api.Hold
				h.Replica = r.Number()
				h.Number = r.Number()
				h.Amount = r.Number()
				h.Due = r.Number()
				h.State = r.Number()
				f.Holds = append(f.Holds, h)
			}
		}
	}
	if f.Kind == 2 {
		f.Lock.Seq = r.Number()
		f.Lock.Ver = r.Number()
		f.Lock.Holder = r.Number()
		f.Lock.Value = r.Number()
	}
	if e := r.End(); e != api.OK {
		return 0, api.Field{}, e
	}
	if !field.Right(f) {
		return 0, api.Field{}, api.ErrForm
	}
	return version, f, api.OK
}

const behind = "\xa5\x5a\x03"

// decode holds Decode against the words, what is handed in against what it was, and what is decoded, encoded again, against the bytes.
func decode(t *testing.T, b string) (int, api.Field, api.Errno) {
	t.Helper()
	in := []byte(b + behind)[:len(b)]
	version, f, e := wire.Decode(in)
	v, g, want := decoded(b)
	if version != v || !alike(f, g) || e != want {
		t.Fatalf("Decode(%x): %d, %v, %d; want %d, %v, %d", b, version, f, e, v, g, want)
	}
	if string(in[:len(b)+len(behind)]) != b+behind {
		t.Fatalf("Decode(%x) has changed it", b)
	}
	if e != api.OK {
		return v, g, e
	}
	if said(version, f) != b {
		t.Fatalf("Decode(%x): what is said as %x", b, said(version, f))
	}
	if again, e := wire.Encode(version, f); string(again) != b || e != api.OK {
		t.Fatalf("Decode(%x): encoded again it is %x, %d", b, again, e)
	}
	return v, g, e
}

// P10.1, P10.3: whatever a format can say of fields is decoded as it was.
func TestDecode(t *testing.T) {
	seen := map[string]bool{}
	for i, f := range rightFields() {
		for version := 1; version <= 3; version++ {
			if !says(version, f) {
				continue
			}
			b := said(version, f)
			if v, g, e := decode(t, b); v != version || !alike(f, g) || e != api.OK {
				t.Fatalf("field %d, %q, in format %d: %d, %v, %d", i, f.Name, version, v, g, e)
			}
			seen[b] = true
		}
	}
	if len(seen) < 1800 {
		t.Error("fields' bytes:", len(seen))
	}
}

// P10.1: what one decodes is memory of its own.
func TestDecodeMemory(t *testing.T) {
	b := []byte(said(3, marked()))
	_, one, _ := wire.Decode(b)
	_, two, _ := wire.Decode(b)
	scribble(one.Holds)
	if !alike(two, marked()) || string(b) != said(3, marked()) {
		t.Error("an answer shares another one, or what was handed in")
	}
	scribbleBytes(b)
	if !alike(two, marked()) {
		t.Error("an answer shares what was handed in")
	}
}

// some are bytes of few fields, of all formats that can say them.
func some() []string {
	var all []string
	late := with(locked(), func(f *api.Field) { f.Epoch = 300 })
	full := with(fresh(), func(f *api.Field) { f.Holds = heldBy(16) })
	bare := with(marked(), func(f *api.Field) { f.Epoch, f.Holds = 0, nil })
	long := with(locked(), func(f *api.Field) {
		f.Name, f.Lock = "12345678", api.Lock{Seq: most, Ver: 64, Holder: 15, Value: -most}
	})
	for _, f := range []api.Field{fresh(), locked(), late, full, bare, long, marked()} {
		for version := 1; version <= 3; version++ {
			if says(version, f) {
				all = append(all, said(version, f))
			}
		}
	}
	return all
}

// P10.1: the last bytes are missing, at each byte; ErrShort, though the rest stands in the room behind the end.
func TestDecodeCutOff(t *testing.T) {
	for i, b := range some() {
		for n := range len(b) {
			if v, f, e := wire.Decode([]byte(b)[:n]); v != 0 || !alike(f, api.Field{}) || e != api.ErrShort {
				t.Fatalf("row %d, %d bytes of it: %d, %v, %d", i, n, v, f, e)
			}
			decode(t, b[:n])
		}
	}
	for _, b := range [][]byte{nil, {}} {
		if v, f, e := wire.Decode(b); v != 0 || !alike(f, api.Field{}) || e != api.ErrShort {
			t.Errorf("Decode(%#v): %d, %v, %d", b, v, f, e)
		}
	}
}

// P10.1: other bytes behind a field's.
func TestDecodeMore(t *testing.T) {
	for i, b := range some() {
		for _, tail := range []string{"\x00", "\x80", "\xff\xff", "\x00\x00\x00\x00\x00\x00\x00\x00\x00\x00\x00\x00", b, strings.Repeat("\x02", 100000)} {
			if v, f, e := decode(t, b+tail); v != 0 || !alike(f, api.Field{}) || e != api.ErrMore {
				t.Fatalf("row %d and %.20x behind it: %d, %v, %d", i, tail, v, f, e)
			}
		}
	}
}

// P10.1: bytes that are read, but are no field's: ErrForm; behind others ErrMore, and without the last ErrShort.
func TestDecodeNoField(t *testing.T) {
	told := 0
	for i, f := range saidWrong() {
		for version := 1; version <= 3; version++ {
			if f.Epoch != 0 && version != 3 || f.Kind == 1 && len(f.Holds) > 0 && version == 1 {
				continue
			}
			b := said(version, f)
			if v, g, e := decode(t, b); v != 0 || !alike(g, api.Field{}) || e != api.ErrForm {
				t.Errorf("wrong field %d in format %d: %d, %v, %d", i, version, v, g, e)
			}
			if _, _, e := decode(t, b+"\x00"); e != api.ErrMore {
				t.Errorf("wrong field %d in format %d, a byte more: %d", i, version, e)
			}
			if _, _, e := decode(t, b[:len(b)-1]); e != api.ErrShort {
				t.Errorf("wrong field %d in format %d, a byte less: %d", i, version, e)
			}
			told++
		}
	}
	if told < 150 {
		t.Error("wrong fields:", told)
	}
}

// longer are a number's bytes that may not be, and why.
func longer(n int) map[string]api.Errno {
	b := []byte(digits(n))
	b[len(b)-1] |= 0x80
	if len(b) == 6 {
		return map[string]api.Errno{string(b) + "\x00": api.ErrForm, string(b) + "\x01": api.ErrForm}
	}
	return map[string]api.Errno{string(b) + "\x00": api.ErrForm, string(b) + "\x80\x80\x80\x80\x80\x80\x01": api.ErrForm}
}

// P10.3: a number in more bytes than it needs, or one that may not be, at each place: of a lock in all formats, and of a counter with a hold.
func TestDecodeNumbers(t *testing.T) {
	late := with(locked(), func(f *api.Field) { f.Epoch = 300 })
	bare := with(marked(), func(f *api.Field) { f.Epoch, f.Holds = 0, nil })
	full := with(marked(), func(f *api.Field) { f.Holds = f.Holds[:2] })
	for _, c := range []struct {
		version int
		f       api.Field
	}{{1, locked()}, {2, locked()}, {3, late}, {1, bare}, {2, bare}, {3, full}} {
		b := said(c.version, c.f)
		r, places := octets.New([]byte(b)), 0
		for at, name := 0, -1; at < len(b); places++ {
			n := r.Number()
			size := len(digits(n))
			if places == 2 {
				name = n
			}
			wrong := longer(n)
			wrong["\x82\x80\x80\x80\x80\x40"] = api.ErrRange
			wrong["\xff\xff\xff\xff\xff\x7f"] = api.ErrRange
			wrong["\x80\x80\x80\x80\x80\x80\x01"] = api.ErrForm
			for in, want := range wrong {
				if _, _, e := decode(t, b[:at]+in+b[at+size:]); e != want {
					t.Fatalf("format %d, %x in the place of number %d: %d; want %d", c.version, in, places, e, want)
				}
				if _, _, e := decode(t, b[:at]+in); e != want {
					t.Fatalf("format %d, %x as the last number, %d: %d; want %d", c.version, in, places, e, want)
				}
			}
			at += size
			if places == 2 {
				at += name
				r = octets.New([]byte(b[at:]))
			}
		}
		if c.f.Kind == 1 && places < 3+3+2*18*16 || places < 7 {
			t.Errorf("format %d: %d numbers", c.version, places)
		}
	}
}

// P10.1: a format that is none is told as soon as it is read, whatever stands behind it; what can't be read is told by layer 8.
func TestDecodeVersion(t *testing.T) {
	tails := []string{"", "\x00", "\x80", "\xff\xff\xff\xff\xff\xff\xff", said(1, locked())[1:], said(3, marked())[1:]}
	for _, version := range versions() {
		if isFormat(version) || version < -most || version > most {
			continue
		}
		for _, tail := range tails {
			if v, f, e := decode(t, digits(version)+tail); v != 0 || !alike(f, api.Field{}) || e != api.ErrVersion {
				t.Errorf("format %d, %.20x behind it: %d, %v, %d", version, tail, v, f, e)
			}
		}
	}
	for in, want := range map[string]api.Errno{"\x80": api.ErrShort, "\x82": api.ErrShort, "\x82\x00": api.ErrForm, "\x80\x00": api.ErrForm, "\x80\x80\x80\x80\x80\x80\x01": api.ErrForm, "\x82\x80\x80\x80\x80\x40": api.ErrRange} {
		if v, f, e := decode(t, in); v != 0 || !alike(f, api.Field{}) || e != want {
			t.Errorf("Decode(%x): %d, %v, %d; want %d", in, v, f, e, want)
		}
	}
}

// P10.1: texts of 9 bytes and more, holds of 17 and more, and of less than none: ErrRange, ahead of what may be wrong behind them.
func TestDecodeCounts(t *testing.T) {
	for version := 1; version <= 3; version++ {
		for kind := range 4 {
			for _, n := range []int{-1, 9, 10, 16, 64, 1 << 20, most, -most} {
				head := digits(version, kind, n)
				for _, tail := range []string{"", "123456789", "\x80", strings.Repeat("x", 100)} {
					if v, f, e := decode(t, head+tail); v != 0 || !alike(f, api.Field{}) || e != api.ErrRange {
						t.Errorf("a text of %d bytes in format %d: %d, %v, %d", n, version, v, f, e)
					}
				}
			}
			for n := 1; n <= 8; n++ {
				if _, _, e := decode(t, digits(version, kind, n)+strings.Repeat("x", n-1)); e != api.ErrShort {
					t.Errorf("a text of %d bytes that ends too early: %d", n, e)
				}
			}
		}
	}
	for version := 2; version <= 3; version++ {
		for _, epoch := range []int{0, 7} {
			f := with(fresh(), func(f *api.Field) { f.Epoch = epoch })
			head := said(version, f)
			head = head[:len(head)-1]
			for _, n := range []int{17, 18, 32, 64, 1 << 20, most, -1, -16, -most} {
				for _, tail := range []string{"", saidHolds(heldBy(17))[1:], "\x80", strings.Repeat("\x02", 400)} {
					if v, f, e := decode(t, head+digits(n)+tail); v != 0 || !alike(f, api.Field{}) || e != api.ErrRange {
						t.Errorf("%d holds in format %d: %d, %v, %d", n, version, v, f, e)
					}
				}
			}
			for n := range 17 {
				want := with(f, func(f *api.Field) { f.Holds = heldBy(n) })
				if version == 2 {
					want.Epoch = 0
				}
				if v, got, e := decode(t, head+saidHolds(heldBy(n))); v != version || !alike(got, want) || e != api.OK {
					t.Errorf("%d holds in format %d: %d, %v, %d", n, version, v, got, e)
				}
			}
		}
	}
	if _, _, e := decode(t, said(1, fresh())+"\x00"); e != api.ErrMore {
		t.Error("how many holds, in format 1:", e)
	}
}

// P10.1: rows worked out by hand; where several errors apply, the first one that is read.
func TestDecodeByHand(t *testing.T) {
	l := api.Field{Name: "l", Kind: api.IsLock, Lock: api.Lock{Holder: 2, Value: -1}}
	for _, c := range []struct {
		b       string
		version int
		f       api.Field
		e       api.Errno
	}{
		{"\x02\x04\x02l\x00\x00\x04\x01", 1, l, api.OK},
		{"\x04\x04\x02l\x00\x00\x04\x01", 2, l, api.OK},
		{"\x06\x04\x02l\x00\x00\x00\x04\x01", 3, l, api.OK},
		{"\x06\x04\x02l\x0a\x00\x00\x04\x01", 3, with(l, func(f *api.Field) { f.Epoch = 5 }), api.OK},
		{"\x06\x04\x02l\x00\x00\x04\x01", 0, api.Field{}, api.ErrShort},
		{"\x04\x04\x02l\x00\x00\x00\x04\x01", 0, api.Field{}, api.ErrMore},
		{"\x06\x04\x02l\x01\x00\x00\x04\x01", 0, api.Field{}, api.ErrForm},
		{"\x02\x04\x02l\x00\x00\x20\x01", 0, api.Field{}, api.ErrForm},
		{"\x02\x04\x02l\x00\x00\x01\x01", 0, api.Field{}, api.ErrForm},
		{"\x02\x04\x02 \x00\x00\x04\x01", 0, api.Field{}, api.ErrForm},
		{"\x02\x04\x00\x00\x00\x04\x01", 0, api.Field{}, api.ErrForm},
		{"\x00", 0, api.Field{}, api.ErrVersion},
		{"\x08\x04\x02l\x00\x00\x04\x01", 0, api.Field{}, api.ErrVersion},
		{"\x01\x04\x02l\x00\x00\x04\x01", 0, api.Field{}, api.ErrVersion},
		// A kind that is none has a name, and in format 3 an epoch, and nothing behind them.
		{"\x02\x06\x02l", 0, api.Field{}, api.ErrForm},
		{"\x04\x00\x02l", 0, api.Field{}, api.ErrForm},
		{"\x06\x01\x02l", 0, api.Field{}, api.ErrShort},
		{"\x06\x01\x02l\x00", 0, api.Field{}, api.ErrForm},
		{"\x06\x06\x02l\x00\x00", 0, api.Field{}, api.ErrMore},
		{"\x02\x06\x02l\x00\x00\x04\x01", 0, api.Field{}, api.ErrMore},
		{"\x02\x06", 0, api.Field{}, api.ErrShort},
		{"\x02\x06\x12l", 0, api.Field{}, api.ErrRange},
		// The first error is told, not a later one, nor a worse one.
		{"\x02\x04\x12l\x80\x00", 0, api.Field{}, api.ErrRange},
		{"\x02\x84\x00\x12l", 0, api.Field{}, api.ErrForm},
		{"\x02\x04\x02l\x80\x00\x82\x80\x80\x80\x80\x40", 0, api.Field{}, api.ErrForm},
		{"\x02\x04\x02l\x82\x80\x80\x80\x80\x40\x80\x00", 0, api.Field{}, api.ErrRange},
		{"\x02\x04\x02l\x82\x80\x80\x80\x80\x40", 0, api.Field{}, api.ErrRange},
	} {
		if version, f, e := decode(t, c.b); version != c.version || !alike(f, c.f) || e != c.e {
			t.Errorf("Decode(%x): %d, %v, %d; want %d, %v, %d", c.b, version, f, e, c.version, c.f, c.e)
		}
	}
}

// P10.3: all short rows of the bytes that count in fields of few bytes.
func TestDecodeShortRows(t *testing.T) {
	letters := "\x00\x01\x02\x04\x06\x08\x1e\x20l\x80"
	found := 0
	for _, head := range []string{"\x02", "\x04", "\x06", "\x02\x04\x02", "\x04\x04\x02l", "\x06\x04\x02l\x00"} {
		for n := range 10 * 10 * 10 * 10 {
			row := head
			for range 4 {
				row += letters[n%10 : n%10+1]
				n /= 10
			}
			if _, _, e := decode(t, row); e == api.OK {
				found++
			}
		}
	}
	if found == 0 {
		t.Error("no field was found")
	}
}

// P10.3: bytes of which one is turned, at each place, in some bits: another field, or none; but not that one.
func TestDecodeTurned(t *testing.T) {
	chance := rand.New(rand.NewPCG(10, 3))
	for i, b := range some() {
		v, f, _ := wire.Decode([]byte(b))
		for at := range len(b) {
			turned := []byte(b)
			turned[at] ^= byte(1 + chance.IntN(255))
			if w, g, e := decode(t, string(turned)); e == api.OK && w == v && alike(f, g) {
				t.Fatalf("row %d, byte %d turned: it is the same", i, at)
			}
		}
	}
}

// P10.1, P10.3: rows as chance has them: bytes left out, doubled and changed.
func TestDecodeByChance(t *testing.T) {
	chance := rand.New(rand.NewPCG(10, 1))
	rows, errors := some(), map[api.Errno]int{}
	for range 20000 {
		b := []byte(rows[chance.IntN(len(rows))])
		for range 1 + chance.IntN(3) {
			at := chance.IntN(len(b))
			if chance.IntN(2) == 0 {
				at = chance.IntN(min(len(b), 12))
			}
			switch chance.IntN(4) {
			case 0:
				b[at] = byte(chance.IntN(256) >> chance.IntN(9))
			case 1:
				b = slices.Delete(b, at, at+1)
			case 2:
				b = slices.Insert(b, at, b[at])
			case 3:
				b = slices.Insert(b, at, byte(chance.IntN(256)>>chance.IntN(9)))
			}
		}
		_, _, e := decode(t, string(b))
		errors[e]++
	}
	for _, e := range []api.Errno{api.OK, api.ErrRange, api.ErrShort, api.ErrForm, api.ErrMore, api.ErrVersion} {
		if errors[e] == 0 {
			t.Error("never told:", e)
		}
	}
}
