package message_test

import (
	"math"
	"slices"
	"strconv"
	"testing"

	"usufruct/api"
	"usufruct/message"
	"usufruct/plan"
)

const most = 1 << 40

// edges: ordinary numbers, the edges of what a part of a message may be, what lies beside these, and the outermost ints.
func edges() []int {
	return []int{-1, 0, 1, 2, 3, 4, 5, 6, 7, 14, 15, 16, 17, -15, -16, 1 << 32, 1<<32 + 1, most - 1, most, most + 1, -most, -most - 1, math.MaxInt, math.MaxInt - 1, math.MinInt, math.MinInt + 1}
}

// count is a counter whose rights are all at replica 0.
func count(name string, epoch, value, low, high int) api.Field {
	f := api.Field{Name: name, Kind: api.IsCounter, Epoch: epoch}
	f.Counter = api.Counter{Init: value, Low: low, High: high}
	f.Counter.Down.Given[0] = value - low
	f.Counter.Up.Given[0] = high - value
	return f
}

// worn is a counter of which all replicas have used some rights, and moved some.
func worn(name string, epoch int) api.Field {
	f := count(name, epoch, 500, 0, 1000)
	for i := range 16 {
		f.Counter.Down.Used[i] = 16 - i
		f.Counter.Up.Given[i] += 16 - i
		for k := range 16 {
			if i != k {
				f.Counter.Up.Moved[i][k] = 100*i + k
			}
		}
	}
	return f
}

// passed is a lock that was passed on, and written.
func passed(name string, epoch, value int) api.Field {
	return api.Field{Name: name, Kind: api.IsLock, Epoch: epoch, Lock: api.Lock{Seq: 4, Ver: 6, Holder: 15, Value: value}}
}

// holding is f with a hold of each of those states.
func holding(f api.Field, states ...int) api.Field {
	f.Holds = nil
	for i, state := range states {
		f.Holds = append(f.Holds, api.Hold{Replica: i, Number: 1 + i, Amount: 3, Due: 9, State: state})
	}
	return f
}

// with is a field, changed.
func with(f api.Field, change func(*api.Field)) api.Field {
	change(&f)
	return f
}

// rows are lists of fields that may be, of none up to four; the format says which one is the least that can say each of a row.
func rows() []struct {
	format int
	fields []api.Field
} {
	a, b := count("a", 0, 5, 0, 10), worn("b", 0)
	c := holding(worn("c", 0), api.Held, api.Kept, api.Gone)
	l := passed("l", 0, -7)
	return []struct {
		format int
		fields []api.Field
	}{
		{1, nil}, {1, []api.Field{}},
		{1, []api.Field{a}}, {1, []api.Field{l}}, {1, []api.Field{a, l}}, {1, []api.Field{a, b, l, passed("~", 0, most)}},
		{1, []api.Field{with(a, func(f *api.Field) { f.Holds = []api.Hold{} })}},
		{1, []api.Field{passed("12345678", 0, 1)}}, {1, []api.Field{passed("1", 0, 1), passed("12345678", 0, -most), count("2", 0, most, 0, most)}},
		{2, []api.Field{c}}, {2, []api.Field{a, c}}, {2, []api.Field{a, b, c, l}},
		{2, []api.Field{holding(count("full", 0, 50, 0, 100), slices.Repeat([]int{api.Held}, 16)...)}},
		{3, []api.Field{count("a", 1, 5, 0, 10)}}, {3, []api.Field{passed("l", most, 0)}}, {3, []api.Field{a, passed("l", 1, 0)}},
		{3, []api.Field{count("a", 2, -5, -10, 0), holding(worn("b", 7), api.Gone), holding(worn("c", 0), api.Held, api.Held), passed("l", 3, 1)}},
		{3, []api.Field{passed("!", 1, 1), passed("B", 2, 2), passed("a", most-1, 3), passed("~~~~~~~~", most, 4)}},
	}
}

// wrongRows are lists of fields that may not be.
func wrongRows() [][]api.Field {
	a, b, c, d, e := count("a", 0, 5, 0, 10), passed("b", 0, 1), passed("c", 0, 1), worn("d", 0), passed("e", 0, 1)
	return [][]api.Field{
		{b, a}, {a, a}, {a, b, b}, {a, c, b}, {b, c, a}, {a, b, c, a}, {a, b, c, d, e}, {a, b, c, d, d}, {e, d, c, b, a},
		{{}}, {a, {}}, {with(a, func(f *api.Field) { f.Name = "" })}, {passed("ninebytes", 0, 1)}, {passed("a b", 0, 1)}, {passed("é", 0, 1)},
		{a, with(b, func(f *api.Field) { f.Kind = 3 })}, {with(a, func(f *api.Field) { f.Kind = 0 })}, {with(a, func(f *api.Field) { f.Kind = api.IsLock })},
		{count("a", -1, 5, 0, 10)}, {passed("a", most+1, 5)}, {passed("a", 0, most+1)}, {passed("a", 0, math.MinInt)}, {passed("a", math.MaxInt, 5)},
		{with(a, func(f *api.Field) { f.Counter.Init = 11 })}, {with(d, func(f *api.Field) { f.Counter.Up.Moved[5][5] = 1 })},
		{a, with(b, func(f *api.Field) { f.Lock.Holder = 16 })}, {holding(b, api.Gone)},
		{holding(a, api.Held, 4)}, {holding(a, 0)}, {holding(a, slices.Repeat([]int{api.Gone}, 17)...)},
		slices.Repeat([]api.Field{a}, 300),
	}
}

// plans are those of each kind, as they may be.
func plans() []api.Plan {
	return []api.Plan{
		{Kind: api.Tighten, Name: "a", A: 1}, {Kind: api.Tighten, Name: "12345678", A: most, B: most},
		{Kind: api.Loosen, Name: "a", B: 64}, {Kind: api.ToLock, Name: "~"},
		{Kind: api.ToCount, Name: "l"}, {Kind: api.ToCount, Name: "l", A: -most, B: most}, {Kind: api.ToCount, Name: "l", A: -65, B: -64},
		{Kind: api.Split, Name: "a", Other: "b", A: 5}, {Kind: api.Split, Name: "a", Other: "!~!~!~!~", A: most},
		{Kind: api.Merge, Name: "a", Other: "b"}, {Kind: api.Merge, Name: "87654321", Other: "12345678"},
	}
}

// wrongPlans may not be, each by one thing; none of them is zero but the first.
func wrongPlans() []api.Plan {
	return []api.Plan{
		{}, {Name: "a"}, {Kind: 7, Name: "a"}, {Kind: -1, Name: "a"}, {Kind: math.MaxInt, Name: "a", A: 1}, {Kind: math.MinInt, Name: "a", A: 1},
		{Kind: api.ToLock}, {Kind: api.ToLock, Name: "123456789"}, {Kind: api.ToLock, Name: "a b"}, {Kind: api.ToLock, Name: "a", Other: "b"}, {Kind: api.ToLock, Name: "a", A: 1}, {Kind: api.ToLock, Name: "a", B: -1},
		{Kind: api.Tighten, Name: "a"}, {Kind: api.Tighten, Name: "a", A: -1, B: 1}, {Kind: api.Loosen, Name: "a", A: 1, B: -1}, {Kind: api.Loosen, Name: "a", A: 1, Other: "b"},
		{Kind: api.Loosen, Name: "a", A: most + 1}, {Kind: api.Loosen, Name: "a", B: math.MaxInt}, {Kind: api.ToCount, Name: "a", A: math.MinInt, B: 1}, {Kind: api.ToCount, Name: "a", A: 2, B: 1},
		{Kind: api.Split, Name: "a", Other: "a", A: 1}, {Kind: api.Split, Name: "a", A: 1}, {Kind: api.Split, Name: "a", Other: "b"}, {Kind: api.Split, Name: "a", Other: "b", A: 1, B: 1},
		{Kind: api.Split, Name: "a", Other: "123456789", A: 1}, {Kind: api.Merge, Name: "a"}, {Kind: api.Merge, Name: "a", Other: "a"}, {Kind: api.Merge, Name: "a", Other: "b", A: 1}, {Other: "b"}, {A: 1}, {B: 1},
	}
}

// says tells by the words whether a format can say a field that may be.
func says(version int, f api.Field) bool {
	switch version {
	case 1:
		return f.Epoch == 0 && len(f.Holds) == 0
	case 2:
		return f.Epoch == 0
	}
	return version == 3
}

// mayBe is the section 'Words' of a message, one by one.
func mayBe(m api.Message) bool {
	if m.Kind < 1 || m.Kind > 5 {
		return false
	}
	if m.From < 0 || m.From > 15 || m.To < 0 || m.To > 15 || m.From == m.To {
		return false
	}
	if m.Version < 1 || m.Version > 3 || m.Number < 0 || m.Number > most || !plan.Fields(m.Fields) {
		return false
	}
	for _, f := range m.Fields {
		if !says(m.Version, f) {
			return false
		}
	}
	if m.Kind == 2 && !plan.Right(m.Plan) || m.Kind != 2 && m.Plan != (api.Plan{}) {
		return false
	}
	if m.Kind != 4 && m.Yes {
		return false
	}
	none := m.Kind == 2 || m.Kind == 5 || m.Kind == 4 && !m.Yes
	return !none || len(m.Fields) == 0
}

// digits is numbers' bytes by the words of layer 8, written down bit by bit.
func digits(l ...int) string {
	var row []byte
	for _, n := range l {
		u := 2 * n
		if n < 0 {
			u = 2*(-1-n) + 1
		}
		bits := strconv.FormatInt(int64(u), 2)
		for len(bits) > 7 {
			c, _ := strconv.ParseUint("1"+bits[len(bits)-7:], 2, 8)
			row = append(row, byte(c))
			bits = bits[:len(bits)-7]
		}
		c, _ := strconv.ParseUint(bits, 2, 8)
		row = append(row, byte(c))
	}
	return string(row)
}

// saidField is a field's bytes by the words of layer 10.
func saidField(version int, f api.Field) string {
	s := digits(version, f.Kind, len(f.Name)) + f.Name
	if version == 3 {
		s += digits(f.Epoch)
	}
	if f.Kind == 2 {
		return s + digits(f.Lock.Seq, f.Lock.Ver, f.Lock.Holder, f.Lock.Value)
	}
	s += digits(f.Counter.Init, f.Counter.Low, f.Counter.High)
	for _, r := range []api.Rights{f.Counter.Down, f.Counter.Up} {
		s += digits(r.Given[:]...) + digits(r.Used[:]...)
		for _, v := range r.Moved {
			s += digits(v[:]...)
		}
	}
	if version == 1 {
		return s
	}
	s += digits(len(f.Holds))
	for _, h := range f.Holds {
		s += digits(h.Replica, h.Number, h.Amount, h.Due, h.State)
	}
	return s
}

// part is one number's bytes, or those that a text has behind how many they are.
type part struct {
	bytes    string
	isNumber bool
}

func text(s string) []part {
	return []part{{digits(len(s)), true}, {s, false}}
}

// parts is a message's bytes by the words, part by part; also of one that may not be, of which no number is too great.
func parts(m api.Message) []part {
	var all []part
	yes := 0
	if m.Yes {
		yes = 1
	}
	for _, n := range []int{m.Kind, m.From, m.To, m.Version, m.Number, yes, len(m.Fields)} {
		all = append(all, part{digits(n), true})
	}
	for _, f := range m.Fields {
		all = append(all, text(saidField(m.Version, f))...)
	}
	if m.Kind == 2 {
		for _, n := range []int{m.Plan.Kind, m.Plan.A, m.Plan.B} {
			all = append(all, part{digits(n), true})
		}
		all = append(all, text(m.Plan.Name)...)
		all = append(all, text(m.Plan.Other)...)
	}
	return all
}

func whole(l []part) string {
	s := ""
	for _, p := range l {
		s += p.bytes
	}
	return s
}

// said is a message's bytes by the words.
func said(m api.Message) string {
	return whole(parts(m))
}

// messages may be: of each kind, in each format that says them, with each row and each plan, and the outermost addresses and numbers.
func messages() []api.Message {
	var all []api.Message
	for version := 1; version <= 3; version++ {
		for i, at := range []struct{ from, to, number int }{{0, 1, 0}, {1, 0, 1}, {15, 0, most}, {0, 15, most - 1}, {7, 8, 63}, {14, 15, 64}, {3, 2, 8191}} {
			m := api.Message{From: at.from, To: at.to, Version: version, Number: at.number}
			for _, kind := range []int{api.MsgGossip, api.MsgFrozen, api.MsgDecide, api.MsgWant} {
				m.Kind = kind
				all = append(all, m)
			}
			for _, row := range rows() {
				if row.format > version {
					continue
				}
				m.Fields = row.fields
				for _, kind := range []int{api.MsgGossip, api.MsgFrozen, api.MsgDecide} {
					m.Kind, m.Yes = kind, kind == api.MsgDecide
					all = append(all, m)
				}
			}
			m = api.Message{Kind: api.MsgFreeze, From: at.from, To: at.to, Version: version, Number: at.number + i%2}
			m.Number = min(m.Number, most)
			for _, p := range plans() {
				m.Plan = p
				all = append(all, m)
			}
		}
	}
	return all
}

// alikeFields holds each part of two lists of fields against that of the other one.
func alikeFields(a, b []api.Field) bool {
	return slices.EqualFunc(a, b, func(a, b api.Field) bool {
		return a.Name == b.Name && a.Kind == b.Kind && a.Epoch == b.Epoch && a.Counter == b.Counter && a.Lock == b.Lock && slices.Equal(a.Holds, b.Holds)
	})
}

// alike holds each part of two messages against that of the other one.
func alike(a, b api.Message) bool {
	return a.Kind == b.Kind && a.From == b.From && a.To == b.To && a.Version == b.Version && a.Number == b.Number && a.Yes == b.Yes && a.Plan == b.Plan && alikeFields(a.Fields, b.Fields)
}

// brief is what a test tells of a message; the whole of its fields' rights would be too long to read.
func brief(m api.Message) []any {
	all := []any{m.Kind, m.From, m.To, m.Version, m.Number, m.Yes, m.Plan}
	for _, f := range m.Fields {
		all = append(all, []any{f.Name, f.Kind, f.Epoch, f.Counter.Init, f.Lock, f.Holds})
	}
	return all
}

// encode holds Right and Encode against the words, and what is handed in against what it was.
func encode(t *testing.T, m api.Message) ([]byte, bool) {
	t.Helper()
	in := m
	in.Fields = guarded(m.Fields)
	is := message.Right(in)
	b, e := message.Encode(in)
	if is != mayBe(m) {
		t.Fatalf("Right of %v: %v", brief(m), is)
	}
	want, f := "", api.ErrArg
	if is {
		want, f = said(m), api.OK
	}
	if string(b) != want || e != f {
		t.Fatalf("Encode of %v: %x, %d; want %x, %d", brief(m), b, e, want, f)
	}
	if !untouched(in.Fields, m.Fields) || !alike(in, m) {
		t.Fatalf("Right or Encode has changed %v", brief(m))
	}
	return b, is
}

// P14.1: all that may be of each kind, in each format.
func TestEncode(t *testing.T) {
	kinds, formats, fields := map[int]int{}, map[int]int{}, map[int]int{}
	for _, m := range messages() {
		if _, is := encode(t, m); !is {
			t.Fatalf("it may be: %v", brief(m))
		}
		kinds[m.Kind]++
		formats[m.Version]++
		fields[len(m.Fields)]++
	}
	if len(kinds) != 5 || len(formats) != 3 || fields[0] == 0 || fields[1] == 0 || fields[4] == 0 {
		t.Error(kinds, formats, fields)
	}
}

// P14.1: the bytes one by one, the chapter's example the first.
func TestEncodeByteByByte(t *testing.T) {
	l, k := passed("l", 0, -1), passed("k2", 0, 64)
	k.Lock = api.Lock{Holder: 1, Value: 64}
	later := l
	later.Epoch = 2
	for _, c := range []struct {
		m api.Message
		b string
	}{
		{api.Message{Kind: api.MsgWant, From: 0, To: 1, Version: 3}, "\x0a\x00\x02\x06\x00\x00\x00"},
		{api.Message{Kind: api.MsgGossip, From: 15, To: 0, Version: 1}, "\x02\x1e\x00\x02\x00\x00\x00"},
		{api.Message{Kind: api.MsgFrozen, From: 0, To: 15, Version: 2, Number: 63}, "\x06\x00\x1e\x04\x7e\x00\x00"},
		{api.Message{Kind: api.MsgDecide, From: 2, To: 3, Version: 1, Number: 64}, "\x08\x04\x06\x02\x80\x01\x00\x00"},
		{api.Message{Kind: api.MsgDecide, From: 2, To: 3, Version: 1, Number: most, Yes: true}, "\x08\x04\x06\x02\x80\x80\x80\x80\x80\x40\x02\x00"},
		{api.Message{Kind: api.MsgWant, From: 1, To: 0, Version: 3, Number: most - 1}, "\x0a\x02\x00\x06\xfe\xff\xff\xff\xff\x3f\x00\x00"},
		{api.Message{Kind: api.MsgGossip, From: 0, To: 1, Version: 1, Fields: []api.Field{l}}, "\x02\x00\x02\x02\x00\x00\x02" + "\x10" + "\x02\x04\x02l\x08\x0c\x1e\x01"},
		{api.Message{Kind: api.MsgGossip, From: 0, To: 1, Version: 2, Fields: []api.Field{l}}, "\x02\x00\x02\x04\x00\x00\x02" + "\x10" + "\x04\x04\x02l\x08\x0c\x1e\x01"},
		{api.Message{Kind: api.MsgFrozen, From: 0, To: 1, Version: 3, Fields: []api.Field{l}}, "\x06\x00\x02\x06\x00\x00\x02" + "\x12" + "\x06\x04\x02l\x00\x08\x0c\x1e\x01"},
		{api.Message{Kind: api.MsgDecide, From: 0, To: 1, Version: 3, Yes: true, Fields: []api.Field{k, later}}, "\x08\x00\x02\x06\x00\x02\x04" + "\x16" + "\x06\x04\x04k2\x00\x00\x00\x02\x80\x01" + "\x12" + "\x06\x04\x02l\x04\x08\x0c\x1e\x01"},
		{api.Message{Kind: api.MsgFreeze, From: 0, To: 1, Version: 1, Number: 1, Plan: api.Plan{Kind: api.Tighten, Name: "a", A: 1, B: 2}}, "\x04\x00\x02\x02\x02\x00\x00" + "\x02\x02\x04\x02a\x00"},
		{api.Message{Kind: api.MsgFreeze, From: 0, To: 1, Version: 1, Plan: api.Plan{Kind: api.Loosen, Name: "ab", B: 64}}, "\x04\x00\x02\x02\x00\x00\x00" + "\x04\x00\x80\x01\x04ab\x00"},
		{api.Message{Kind: api.MsgFreeze, From: 0, To: 1, Version: 2, Plan: api.Plan{Kind: api.ToLock, Name: "12345678"}}, "\x04\x00\x02\x04\x00\x00\x00" + "\x06\x00\x00\x1012345678\x00"},
		{api.Message{Kind: api.MsgFreeze, From: 0, To: 1, Version: 3, Plan: api.Plan{Kind: api.ToCount, Name: "l", A: -3, B: -1}}, "\x04\x00\x02\x06\x00\x00\x00" + "\x08\x05\x01\x02l\x00"},
		{api.Message{Kind: api.MsgFreeze, From: 0, To: 1, Version: 3, Plan: api.Plan{Kind: api.Split, Name: "b", Other: "a", A: 5}}, "\x04\x00\x02\x06\x00\x00\x00" + "\x0a\x0a\x00\x02b\x02a"},
		{api.Message{Kind: api.MsgFreeze, From: 0, To: 1, Version: 3, Plan: api.Plan{Kind: api.Merge, Name: "a", Other: "bc"}}, "\x04\x00\x02\x06\x00\x00\x00" + "\x0c\x00\x00\x02a\x04bc"},
	} {
		if b, _ := encode(t, c.m); string(b) != c.b {
			t.Errorf("Encode of %v: %x, want %x", brief(c.m), b, c.b)
		}
		if m, e := message.Decode([]byte(c.b)); !alike(m, c.m) || e != api.OK {
			t.Errorf("Decode(%x): %v, %d", c.b, brief(m), e)
		}
	}
}

// P14.1: all edges of each number, beside one another, of messages of each kind.
func TestRightByNumbers(t *testing.T) {
	right := map[int]int{}
	try := func(m api.Message) {
		if _, is := encode(t, m); is {
			right[m.Kind]++
		}
	}
	some := []int{-1, 0, 1, 3, 4, 15, 16, most, math.MinInt}
	for _, kind := range edges() {
		m := api.Message{Kind: kind, From: 0, To: 1, Version: 3, Yes: kind == api.MsgDecide}
		if kind == api.MsgFreeze {
			m.Plan = plans()[0]
		}
		for _, n := range edges() {
			for _, k := range edges() {
				m.From, m.To = n, k
				try(m)
				m.From, m.To, m.Version, m.Number = 15, 0, n, k
				try(m)
				m.Version, m.Number = 3, 0
			}
		}
		for _, from := range some {
			for _, to := range some {
				for _, version := range some {
					for _, number := range some {
						m.From, m.To, m.Version, m.Number = from, to, version, number
						try(m)
					}
				}
			}
		}
	}
	if len(right) != 5 {
		t.Error("kinds of which some may be:", right)
	}
}

// P14.1: From and To, all that may be.
func TestRightByAddress(t *testing.T) {
	for from := -3; from < 20; from++ {
		for to := -3; to < 20; to++ {
			m := api.Message{Kind: api.MsgWant, From: from, To: to, Version: 1}
			is := from >= 0 && from <= 15 && to >= 0 && to <= 15 && from != to
			if message.Right(m) != is {
				t.Errorf("Right from %d to %d: %v", from, to, !is)
			}
			encode(t, m)
		}
	}
}

// bodies are fields beside plans: each list of fields with plans of which one is none, one may be and one may not, and the other way round.
func bodies() []api.Message {
	var all []api.Message
	var lists [][]api.Field
	for _, row := range rows() {
		lists = append(lists, row.fields)
	}
	lists = append(lists, wrongRows()...)
	for _, l := range lists {
		for _, p := range []api.Plan{{}, plans()[0], wrongPlans()[2]} {
			all = append(all, api.Message{Fields: l, Plan: p})
		}
	}
	for _, p := range append(plans(), wrongPlans()...) {
		for _, l := range [][]api.Field{nil, rows()[3].fields, wrongRows()[0]} {
			all = append(all, api.Message{Fields: l, Plan: p})
		}
	}
	return all
}

// P14.1: what each kind has and has not: fields, a plan and Yes, in each format.
func TestRightByKinds(t *testing.T) {
	right := map[int]int{}
	for _, m := range bodies() {
		for _, kind := range []int{0, 1, 2, 3, 4, 5, 6, -1, math.MaxInt, math.MinInt} {
			for _, version := range []int{0, 1, 2, 3, 4, -1, math.MaxInt, math.MinInt} {
				for _, yes := range []bool{false, true} {
					m.Kind, m.From, m.To, m.Version, m.Number, m.Yes = kind, 1, 0, version, 5, yes
					if _, is := encode(t, m); is {
						right[kind]++
					}
				}
			}
		}
	}
	for kind := 1; kind <= 5; kind++ {
		if right[kind] == 0 {
			t.Error("none may be of kind", kind)
		}
	}
}

// P14.1: lists of fields one by one: how many formats can say each.
func TestRightByFields(t *testing.T) {
	for i, row := range rows() {
		for version := 0; version <= 4; version++ {
			m := api.Message{Kind: api.MsgGossip, To: 1, Version: version, Fields: row.fields}
			want := version >= row.format && version <= 3
			if _, is := encode(t, m); is != want {
				t.Errorf("Right of row %d in format %d: %v", i, version, is)
			}
			m.Kind, m.Yes = api.MsgDecide, true
			if message.Right(m) != want {
				t.Errorf("Right of a decide of row %d in format %d: %v", i, version, !want)
			}
		}
	}
	for i, l := range wrongRows() {
		for version := 1; version <= 3; version++ {
			for _, kind := range []int{api.MsgGossip, api.MsgFrozen, api.MsgDecide} {
				m := api.Message{Kind: kind, To: 1, Version: version, Yes: kind == api.MsgDecide, Fields: l}
				if _, is := encode(t, m); is {
					t.Errorf("Right of wrong row %d in format %d", i, version)
				}
			}
		}
	}
}

// P14.1: one thing at a time that may not be, in messages that may.
func TestRightButForOneThing(t *testing.T) {
	l := passed("l", 0, 1)
	gossip := api.Message{Kind: api.MsgGossip, From: 3, To: 4, Version: 1, Number: 7, Fields: []api.Field{l}}
	freeze := api.Message{Kind: api.MsgFreeze, From: 3, To: 4, Version: 1, Number: 7, Plan: api.Plan{Kind: api.ToLock, Name: "a"}}
	decide := api.Message{Kind: api.MsgDecide, From: 3, To: 4, Version: 1, Number: 7, Yes: true, Fields: []api.Field{l}}
	want := api.Message{Kind: api.MsgWant, From: 3, To: 4, Version: 1, Number: 7}
	for _, m := range []api.Message{gossip, freeze, decide, want} {
		for i, change := range []func(*api.Message){
			func(m *api.Message) { m.Kind = 0 }, func(m *api.Message) { m.Kind = 6 }, func(m *api.Message) { m.Kind += 256 },
			func(m *api.Message) { m.From = -1 }, func(m *api.Message) { m.From = 16 }, func(m *api.Message) { m.From = 4 },
			func(m *api.Message) { m.To = -1 }, func(m *api.Message) { m.To = 16 }, func(m *api.Message) { m.To = 3 },
			func(m *api.Message) { m.Version = 0 }, func(m *api.Message) { m.Version = 4 }, func(m *api.Message) { m.Version = -3 },
			func(m *api.Message) { m.Number = -1 }, func(m *api.Message) { m.Number = most + 1 },
			func(m *api.Message) { m.Plan.B = -1 }, func(m *api.Message) { m.Plan.Other = "b" }, func(m *api.Message) { m.Plan.Kind = 9 },
			func(m *api.Message) { m.Fields = []api.Field{l, l} },
		} {
			other := m
			change(&other)
			if _, is := encode(t, other); is {
				t.Errorf("kind %d, change %d: %v", m.Kind, i, brief(other))
			}
		}
	}
	for i, m := range []api.Message{gossip, freeze, want} {
		m.Yes = true
		if message.Right(m) {
			t.Error("Yes in one that has none,", i)
		}
	}
	decide.Yes = false
	if message.Right(decide) {
		t.Error("fields in a decide without Yes")
	}
	for i, m := range []api.Message{freeze, want} {
		m.Fields = []api.Field{l}
		if message.Right(m) {
			t.Error("fields in one that has none,", i)
		}
	}
	decide.Fields = nil
	for i, m := range []api.Message{gossip, decide, want} {
		m.Plan = freeze.Plan
		if message.Right(m) {
			t.Error("a plan in one that has none,", i)
		}
	}
}
