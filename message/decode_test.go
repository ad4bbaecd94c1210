package message_test

import (
	"slices"
	"strconv"
	"strings"
	"testing"

	"usufruct/api"
	"usufruct/message"
	"usufruct/octets"
	"usufruct/wire"
)

const behind = "\xa5\x5a\x03"

// decoded is what Decode is to tell by the words: all is read, and then asked.
func decoded(b string) (api.Message, api.Errno) {
	var m, none api.Message
	r := octets.New([]byte(b))
	m.Kind = r.Number()
	m.From = r.Number()
	m.To = r.Number()
	m.Version = r.Number()
	m.Number = r.Number()
	yes := r.Count(1)
	n := r.Count(4)
	inVersion := true
	for range n {
		said := r.Text(32768)
		if r.Err() != api.OK {
			return none, r.Err()
		}
		version, f, e := wire.Decode([]byte(said))
		if e != api.OK {
			return none, e
		}
		inVersion = inVersion && version == m.Version
		m.Fields = append(m.Fields, f)
	}
	if m.Kind == 2 {
		m.Plan.Kind = r.Number()
		m.Plan.A = r.Number()
		m.Plan.B = r.Number()
		m.Plan.Name = r.Text(8)
		m.Plan.Other = r.Text(8)
	}
	if e := r.End(); e != api.OK {
		return none, e
	}
	m.Yes = yes == 1
	if !inVersion || !mayBe(m) {
		return none, api.ErrForm
	}
	return m, api.OK
}

// decode holds Decode against the words, what is handed in against what it was, and what is decoded, encoded again, against the bytes.
func decode(t *testing.T, b string) (api.Message, api.Errno) {
	t.Helper()
	in := []byte(b + behind)[:len(b)]
	m, e := message.Decode(in)
	want, f := decoded(b)
	if !alike(m, want) || e != f {
		t.Fatalf("Decode(%x): %v, %d; want %v, %d", b, brief(m), e, brief(want), f)
	}
	if string(in[:len(b)+len(behind)]) != b+behind {
		t.Fatalf("Decode(%x) has changed it", b)
	}
	if e != api.OK {
		return m, e
	}
	if again, e := message.Encode(m); string(again) != b || e != api.OK {
		t.Fatalf("Decode(%x): encoded again it is %x, %d", b, again, e)
	}
	return m, e
}

// refused is Decode of bytes of which the error is known.
func refused(t *testing.T, what string, b string, want api.Errno) {
	t.Helper()
	if m, e := decode(t, b); e != want || !alike(m, api.Message{}) {
		t.Errorf("%s: Decode(%x): %v, %d; want %d", what, b, brief(m), e, want)
	}
}

// short are messages whose bytes are few: of each kind, with a plan, with none, one, two and four fields.
func short() []api.Message {
	a, b := passed("a", 0, 1), passed("b", 0, -64)
	return []api.Message{
		{Kind: api.MsgGossip, From: 0, To: 1, Version: 1},
		{Kind: api.MsgGossip, From: 0, To: 1, Version: 1, Number: most, Fields: []api.Field{a}},
		{Kind: api.MsgGossip, From: 15, To: 0, Version: 2, Fields: []api.Field{a, b}},
		{Kind: api.MsgFreeze, From: 1, To: 0, Version: 3, Number: 64, Plan: api.Plan{Kind: api.Split, Name: "a", Other: "12345678", A: 64}},
		{Kind: api.MsgFreeze, From: 1, To: 0, Version: 1, Number: 64, Plan: api.Plan{Kind: api.ToLock, Name: "a"}},
		{Kind: api.MsgFrozen, From: 1, To: 0, Version: 3, Number: 4, Fields: []api.Field{a, b, passed("c", 3, 9), passed("d", most, most)}},
		{Kind: api.MsgDecide, From: 1, To: 0, Version: 3, Number: 1, Yes: true, Fields: []api.Field{passed("c", 3, 9)}},
		{Kind: api.MsgDecide, From: 1, To: 0, Version: 3, Number: 1},
		{Kind: api.MsgWant, From: 1, To: 15, Version: 3, Number: most - 1},
	}
}

// P14.1, P14.3: all that was encoded is decoded as it was, and no two have the same bytes.
func TestDecode(t *testing.T) {
	seen := map[string]api.Message{}
	for _, m := range append(messages(), short()...) {
		b, e := message.Encode(m)
		if e != api.OK {
			t.Fatalf("Encode of %v: %d", brief(m), e)
		}
		if got, e := decode(t, string(b)); !alike(got, m) || e != api.OK {
			t.Fatalf("Decode of %v: %v, %d", brief(m), brief(got), e)
		}
		if other, is := seen[string(b)]; is && !alike(other, m) {
			t.Fatalf("%v has the bytes of %v", brief(m), brief(other))
		}
		seen[string(b)] = m
	}
	if len(seen) < 700 {
		t.Error("different ones:", len(seen))
	}
}

// P14.1: bytes that are cut at each byte, and none at all.
func TestDecodeWhatIsCut(t *testing.T) {
	refused(t, "none", "", api.ErrShort)
	if m, e := message.Decode(nil); e != api.ErrShort || !alike(m, api.Message{}) {
		t.Error("nil:", brief(m), e)
	}
	for _, m := range append(short(), full()) {
		b := said(m)
		for n := range len(b) {
			refused(t, "cut", b[:n], api.ErrShort)
		}
	}
}

// P14.1: bytes with others behind them, each one byte, and many.
func TestDecodeWithMore(t *testing.T) {
	for _, m := range append(short(), full()) {
		b := said(m)
		for c := range 256 {
			refused(t, "one more", b+string([]byte{byte(c)}), api.ErrMore)
		}
		refused(t, "twice", b+b, api.ErrMore)
		refused(t, "many more", b+strings.Repeat("\x00", 70000), api.ErrMore)
	}
}

// longer is a number's bytes, written with one byte more than it needs.
func longer(b string) string {
	last := len(b) - 1
	return b[:last] + string([]byte{b[last] + 128, 0})
}

const (
	great   = "\x82\x80\x80\x80\x80\x40" // 2^40 + 1
	below   = "\x81\x80\x80\x80\x80\x40" // -2^40 - 1
	tooLong = "\x80\x80\x80\x80\x80\x80\x01"
)

// swapped is the whole of parts, one of them another one.
func swapped(l []part, i int, b string) string {
	l = slices.Clone(l)
	l[i].bytes = b
	return whole(l)
}

// P14.1: each number written too long, too great, and cut where it stands.
func TestDecodeNumbersThatAreNone(t *testing.T) {
	for _, m := range append(short(), full()) {
		l := parts(m)
		for i, p := range l {
			if !p.isNumber {
				continue
			}
			if len(p.bytes) < 6 {
				refused(t, "longer", swapped(l, i, longer(p.bytes)), api.ErrForm)
			}
			refused(t, "too long", swapped(l, i, tooLong), api.ErrForm)
			refused(t, "great", swapped(l, i, great), api.ErrRange)
			refused(t, "below", swapped(l, i, below), api.ErrRange)
			refused(t, "endless", whole(l[:i])+"\xff", api.ErrShort)
		}
	}
}

// P14.1: Yes is 0 or 1, as the bytes are read.
func TestDecodeYes(t *testing.T) {
	for _, m := range append(short(), full()) {
		l := parts(m)
		for _, n := range []int{2, 3, -1, -2, 63, 64, 128, 256, 257, most, -most} {
			refused(t, "Yes", swapped(l, 5, digits(n)), api.ErrRange)
			refused(t, "Yes, and no more", whole(l[:5])+digits(n), api.ErrRange)
		}
		m.Yes = !m.Yes
		if !mayBe(m) {
			refused(t, "the other Yes", said(m), api.ErrForm)
		}
	}
	refused(t, "Yes of a want", "\x0a\x00\x02\x06\x00\x02\x00", api.ErrForm)
	refused(t, "2 of a want", "\x0a\x00\x02\x06\x00\x04\x00", api.ErrRange)
	refused(t, "-1 of a decide", "\x08\x00\x02\x06\x00\x01\x00", api.ErrRange)
}

// P14.1: how many fields: 4 at most.
func TestDecodeCountOfFields(t *testing.T) {
	for _, m := range append(short(), full()) {
		l := parts(m)
		for _, n := range []int{-1, -2, -4, 5, 6, 16, 64, 1 << 15, most, -most} {
			refused(t, "count", swapped(l, 6, digits(n)), api.ErrRange)
			refused(t, "count, and no more", whole(l[:6])+digits(n), api.ErrRange)
		}
	}
	five := api.Message{Kind: api.MsgGossip, To: 1, Version: 1}
	for _, name := range []string{"a", "b", "c", "d", "e"} {
		five.Fields = append(five.Fields, passed(name, 0, 1))
		want := api.OK
		if len(five.Fields) == 5 {
			want = api.ErrRange
		}
		if _, e := decode(t, said(five)); e != want {
			t.Errorf("%d fields: %d", len(five.Fields), e)
		}
	}
	refused(t, "four that are none", "\x02\x00\x02\x02\x00\x00\x08", api.ErrShort)
	refused(t, "four that are empty", "\x02\x00\x02\x02\x00\x00\x08\x00\x00\x00\x00", api.ErrShort)
	refused(t, "one that is there, of two", "\x02\x00\x02\x02\x00\x00\x04"+"\x10"+"\x02\x04\x02l\x08\x0c\x1e\x01", api.ErrShort)
}

// aField is the bytes of a gossip in format 1 with those of one field.
func aField(said string) string {
	return "\x02\x00\x02\x02\x00\x00\x02" + digits(len(said)) + said
}

// P14.1: a field's text: of 2^15 bytes at most, and layer 10's errors of these.
func TestDecodeFieldsText(t *testing.T) {
	lock := saidField(1, passed("l", 0, 1))
	if m, e := decode(t, aField(lock)); e != api.OK || len(m.Fields) != 1 {
		t.Error("a lock:", e)
	}
	long := func(n int) string { return lock + strings.Repeat("\x00", n-len(lock)) }
	refused(t, "of 2^15 bytes", aField(long(1<<15)), api.ErrMore)
	refused(t, "of 2^15 - 1 bytes", aField(long(1<<15-1)), api.ErrMore)
	refused(t, "of 2^15 + 1 bytes", aField(long(1<<15+1)), api.ErrRange)
	refused(t, "of 2^16 bytes", aField(long(1<<16)), api.ErrRange)
	refused(t, "of 2^15 bytes, cut", aField(long(1 << 15))[:1<<15], api.ErrShort)
	refused(t, "of 2^15 bytes that are not there", "\x02\x00\x02\x02\x00\x00\x02"+digits(1<<15), api.ErrShort)
	refused(t, "of 2^15 + 1 bytes that are not there", "\x02\x00\x02\x02\x00\x00\x02"+digits(1<<15+1), api.ErrRange)
	refused(t, "of 2^40 bytes", "\x02\x00\x02\x02\x00\x00\x02"+digits(most), api.ErrRange)
	refused(t, "of -1 bytes", "\x02\x00\x02\x02\x00\x00\x02\x01", api.ErrRange)
	for n := range len(lock) {
		refused(t, "a field that is cut", aField(lock[:n]), api.ErrShort)
	}
	refused(t, "a field with another behind", aField(lock+lock), api.ErrMore)
	refused(t, "a field with 0 behind", aField(lock+"\x00"), api.ErrMore)
	for _, format := range []int{0, 4, -1, 64, most} {
		refused(t, "a format that is none", aField(digits(format)+lock[1:]), api.ErrVersion)
	}
	refused(t, "a kind that is none", aField("\x02\x06\x02l"), api.ErrForm)
	refused(t, "a name of no bytes", aField("\x02\x04\x00\x08\x0c\x1e\x02"), api.ErrForm)
	refused(t, "a name of 9 bytes", aField("\x02\x04\x12"+"ninebytes\x08\x0c\x1e\x02"), api.ErrRange)
	refused(t, "a holder that is none", aField("\x02\x04\x02l\x08\x0c\x20\x02"), api.ErrForm)
	refused(t, "a number that is too long", aField("\x02\x04\x02l\x88\x00\x0c\x1e\x02"), api.ErrForm)
	refused(t, "a number that is too great", aField("\x02\x04\x02l\x08\x0c\x1e"+great), api.ErrRange)
	refused(t, "17 holds", "\x02\x00\x02\x04\x00\x00\x02"+text(saidField(2, holding(count("a", 0, 1, 0, 2), slices.Repeat([]int{api.Gone}, 17)...)))[0].bytes+saidField(2, holding(count("a", 0, 1, 0, 2), slices.Repeat([]int{api.Gone}, 17)...)), api.ErrRange)
}

// P14.1: a field in another format than the message's, which it could be said in.
func TestDecodeFieldsOfAnotherFormat(t *testing.T) {
	fields := []api.Field{passed("a", 0, 1), count("b", 0, 5, 0, 10), passed("c", 0, 1)}
	for version := 0; version <= 4; version++ {
		for n := range 27 {
			m := api.Message{Kind: api.MsgGossip, To: 1, Version: version}
			b := digits(1, 0, 1, version, 0, 0, 3)
			same := true
			for i, k := range []int{n % 3, n / 3 % 3, n / 9} {
				b += digits(len(saidField(k+1, fields[i]))) + saidField(k+1, fields[i])
				same = same && k+1 == version
			}
			if got, e := decode(t, b); same && (e != api.OK || !alikeFields(got.Fields, fields)) || !same && e != api.ErrForm {
				t.Errorf("formats %d of %v: %v, %d", n, brief(m), brief(got), e)
			}
			if same {
				continue
			}
			refused(t, "another format, and more", b+"\x00", api.ErrMore)
			refused(t, "another format, and cut", b[:len(b)-1], api.ErrShort)
		}
	}
}

// P14.1: names of a plan: of 8 bytes at most, as they are read; no message's, if they may not be.
func TestDecodeNamesOfAPlan(t *testing.T) {
	head := digits(2, 0, 1, 1, 0, 0, 0)
	merge := func(name, other string) string {
		return head + digits(6, 0, 0, len(name)) + name + digits(len(other)) + other
	}
	for i, c := range []struct {
		b    string
		want api.Errno
	}{
		{merge("a", "b"), api.OK}, {merge("12345678", "b"), api.OK}, {merge("a", "12345678"), api.OK}, {merge("12345678", "87654321"), api.OK},
		{merge("123456789", "b"), api.ErrRange}, {merge("a", "123456789"), api.ErrRange}, {merge("123456789", "987654321"), api.ErrRange},
		{merge("", "b"), api.ErrForm}, {merge("a", ""), api.ErrForm}, {merge("a", "a"), api.ErrForm}, {merge("a b", "b"), api.ErrForm}, {merge("a", "\x00"), api.ErrForm},
		{head + digits(6, 0, 0) + "\x01", api.ErrRange}, {head + digits(6, 0, 0) + "\x02a\x01", api.ErrRange}, {head + digits(6, 0, 0) + digits(most), api.ErrRange},
		{head + digits(6, 0, 0) + "\x10" + "1234567", api.ErrShort}, {head + digits(6, 0, 0) + "\x02a", api.ErrShort}, {head + digits(6, 0, 0) + "\x02a\x02", api.ErrShort},
		{head, api.ErrShort}, {head + digits(3, 0, 0) + "\x02a\x00", api.OK}, {head + digits(3, 0, 0) + "\x02a", api.ErrShort},
		{head + digits(0, 0, 0) + "\x00\x00", api.ErrForm}, {head + digits(7, 0, 0) + "\x02a\x00", api.ErrForm}, {head + digits(3, 1, 0) + "\x02a\x00", api.ErrForm},
		{merge("a", "b") + "\x00", api.ErrMore}, {merge("a", "a") + "\x00", api.ErrMore},
	} {
		if _, e := decode(t, c.b); e != c.want {
			t.Errorf("%d: Decode(%x): %d, want %d", i, c.b, e, c.want)
		}
	}
}

// P14.1: bytes that are read, and are no message's: each part that may not be, by numbers that may.
func TestDecodeWhatIsNoMessages(t *testing.T) {
	wrong := [][]int{{0, 6, -1, -15, most, -most}, {-1, 16, most, -most}, {-1, 16, most, -most}, {0, 4, -1, most, -most}, {-1, -64, -most}}
	for _, m := range short() {
		l := parts(m)
		for at, numbers := range wrong {
			for _, n := range numbers {
				want := api.ErrForm
				if at == 0 && m.Kind == api.MsgFreeze {
					// Of another kind no plan is read.
					want = api.ErrMore
				}
				refused(t, "no message's", swapped(l, at, digits(n)), want)
			}
		}
		refused(t, "from and to the same", swapped(l, 1, l[2].bytes), api.ErrForm)
	}
	for _, kind := range []int{1, 2, 3, 4, 5} {
		for _, yes := range []bool{false, true} {
			m := api.Message{Kind: kind, To: 1, Version: 1, Yes: yes, Fields: []api.Field{passed("l", 0, 1)}}
			if kind == api.MsgFreeze {
				m.Plan = plans()[0]
			}
			want := api.ErrForm
			if mayBe(m) {
				want = api.OK
			}
			if _, e := decode(t, said(m)); e != want {
				t.Errorf("%v: %d, want %d", brief(m), e, want)
			}
		}
	}
	a, b := passed("a", 0, 1), passed("b", 0, 1)
	for i, l := range [][]api.Field{{b, a}, {a, a}, {a, b, b}, {a, b, a}, {passed("c", 0, 1), a, b}} {
		refused(t, "fields that don't rise, "+strconv.Itoa(i), said(api.Message{Kind: api.MsgGossip, To: 1, Version: 1, Fields: l}), api.ErrForm)
	}
	for i, p := range wrongPlans() {
		m := api.Message{Kind: api.MsgFreeze, To: 1, Version: 1, Plan: p}
		if max(p.A, -p.A, p.B, -p.B, p.Kind, -p.Kind) <= most && min(p.A, p.B, p.Kind) >= -most && len(p.Name) <= 8 && len(p.Other) <= 8 {
			refused(t, "a plan that may not be, "+strconv.Itoa(i), said(m), api.ErrForm)
		}
	}
}

// fault is what a part is, and the error as that is read.
type fault struct {
	bytes string
	e     api.Errno
}

// faults are those of a part of a message that may be, by its place.
func faults(m api.Message, l []part, at int) []fault {
	isName := !l[at].isNumber && at >= 7+2*len(m.Fields)
	isCount := at == 5 || at == 6 || at+1 < len(l) && !l[at+1].isNumber
	switch {
	case isName:
		return nil
	case !l[at].isNumber:
		// Each is as long as the field's bytes were, so that how many they are, ahead of them, is right.
		b := l[at].bytes
		return []fault{{"\x08" + b[1:], api.ErrVersion}, {b[:len(b)-1] + "\xff", api.ErrShort}, {b[:1] + "\x06" + b[2:], api.ErrMore}, {b[:3] + "\x00" + b[4:], api.ErrForm}, {b[:2] + "\x12" + b[3:], api.ErrRange}}
	case isCount:
		return []fault{{longer("\x02"), api.ErrForm}, {great, api.ErrRange}, {"\x01", api.ErrRange}, {digits(most), api.ErrRange}}
	}
	return []fault{{longer("\x02"), api.ErrForm}, {great, api.ErrRange}, {tooLong, api.ErrForm}}
}

// P14.1: where several errors apply, the first one as the bytes are read is told; ErrMore behind all of these, and last that they are no message's.
func TestDecodeFirstError(t *testing.T) {
	for _, m := range short() {
		l := parts(m)
		for i := range l {
			for _, one := range faults(m, l, i) {
				first := slices.Clone(l)
				first[i].bytes = one.bytes
				refused(t, "one fault", whole(first), one.e)
				refused(t, "one fault, and more", whole(first)+"\x00", one.e)
				refused(t, "one fault, and cut behind it", whole(first[:i+1]), one.e)
				for j := i + 1; j < len(l); j++ {
					for _, other := range faults(m, l, j) {
						refused(t, "two faults", swapped(first, j, other.bytes), one.e)
					}
				}
				for j := range min(i, 5) {
					if j > 0 || m.Kind != api.MsgFreeze {
						refused(t, "a fault behind what may not be", swapped(first, j, digits(-1)), one.e)
					}
				}
			}
		}
	}
}
