package message_test

import (
	"math"
	"testing"

	"usufruct/api"
	"usufruct/field"
	"usufruct/message"
	"usufruct/wire"
)

// left is what Said is to tell by the words, field by field.
func left(version int, l []api.Field) []api.Field {
	var all []api.Field
	for _, f := range l {
		if !field.Right(f) || version < 1 || version > 3 {
			continue
		}
		if version < 3 && f.Epoch != 0 {
			continue
		}
		if version == 1 {
			f.Holds = nil
		}
		all = append(all, f)
	}
	return all
}

// tell is Said, held against the words, and what is handed in against what it was; all that it tells can be said.
func tell(t *testing.T, version int, l []api.Field) []api.Field {
	t.Helper()
	in := guarded(l)
	got := message.Said(version, in)
	if want := left(version, l); !alikeFields(got, want) {
		t.Fatalf("Said(%d) of %v: %v; want %v", version, brief(api.Message{Fields: l}), brief(api.Message{Fields: got}), brief(api.Message{Fields: want}))
	}
	if !untouched(in, l) {
		t.Fatalf("Said(%d) has changed %v", version, brief(api.Message{Fields: l}))
	}
	for _, f := range got {
		if !wire.Says(version, f) {
			t.Fatalf("Said(%d): it can't be said: %v", version, brief(api.Message{Fields: got}))
		}
	}
	return got
}

// formats: those that are, what lies beside them, and the outermost ints.
func formats() []int {
	return []int{1, 2, 3, 0, 4, -1, -2, -3, 255, 257, 1<<32 + 1, most, most + 1, math.MaxInt, math.MinInt}
}

// P14.2: rows of fields that may be, those that may not, and none, in each format.
func TestSaid(t *testing.T) {
	for _, version := range formats() {
		for _, row := range rows() {
			got := tell(t, version, row.fields)
			if row.format <= version && version <= 3 && !alikeFields(got, row.fields) {
				t.Errorf("Said(%d) of what it can say: %v", version, brief(api.Message{Fields: got}))
			}
		}
		for _, l := range wrongRows() {
			tell(t, version, l)
		}
		if len(message.Said(version, nil)) != 0 || len(message.Said(version, []api.Field{})) != 0 {
			t.Error("Said of none, format", version)
		}
	}
}

// P14.2: what is left of one field, in each format.
func TestSaidOfOne(t *testing.T) {
	plain, held := count("a", 0, 5, 0, 10), holding(worn("b", 0), api.Held, api.Gone)
	bare := worn("b", 0)
	none := []api.Field(nil)
	for i, c := range []struct {
		f    api.Field
		want [4][]api.Field
	}{
		{plain, [4][]api.Field{1: {plain}, 2: {plain}, 3: {plain}}},
		{held, [4][]api.Field{1: {bare}, 2: {held}, 3: {held}}},
		{passed("l", 0, 7), [4][]api.Field{1: {passed("l", 0, 7)}, 2: {passed("l", 0, 7)}, 3: {passed("l", 0, 7)}}},
		{passed("l", 1, 7), [4][]api.Field{1: none, 2: none, 3: {passed("l", 1, 7)}}},
		{passed("l", most, 7), [4][]api.Field{1: none, 2: none, 3: {passed("l", most, 7)}}},
		{count("a", 1, 5, 0, 10), [4][]api.Field{1: none, 2: none, 3: {count("a", 1, 5, 0, 10)}}},
		{holding(plain, api.Kept), [4][]api.Field{1: {plain}, 2: {holding(plain, api.Kept)}, 3: {holding(plain, api.Kept)}}},
		{holding(count("a", 9, 5, 0, 10), api.Kept), [4][]api.Field{1: none, 2: none, 3: {holding(count("a", 9, 5, 0, 10), api.Kept)}}},
		{holding(plain, 4), [4][]api.Field{}},
		{passed("l", -1, 7), [4][]api.Field{}},
		{passed("", 0, 7), [4][]api.Field{}},
		{passed("ninebytes", 0, 7), [4][]api.Field{}},
		{api.Field{}, [4][]api.Field{}},
	} {
		for version := range c.want {
			if got := tell(t, version, []api.Field{c.f}); !alikeFields(got, c.want[version]) {
				t.Errorf("%d: Said(%d): %v", i, version, brief(api.Message{Fields: got}))
			}
		}
		if got := tell(t, 4, []api.Field{c.f}); len(got) != 0 {
			t.Errorf("%d: Said(4): %v", i, brief(api.Message{Fields: got}))
		}
	}
}

// P14.2: each field for itself: in the order in which they stand, however often, and however many; those that may not be, or can't be said, at any place.
func TestSaidOfMany(t *testing.T) {
	pool := []api.Field{count("a", 0, 5, 0, 10), passed("b", 1, 2), holding(worn("c", 0), api.Held), holding(count("d", 2, 1, 0, 2), api.Gone), passed("ninebytes", 0, 1), {}}
	for n := range len(pool) * len(pool) * len(pool) * len(pool) {
		var l []api.Field
		for k := n; k > 0; k /= len(pool) {
			l = append(l, pool[k%len(pool)])
		}
		for version := 0; version <= 4; version++ {
			tell(t, version, l)
		}
	}
	var l []api.Field
	for i := range 500 {
		l = append(l, pool[i%len(pool)])
	}
	for version, want := range []int{0, 167, 167, 334, 0} {
		if got := tell(t, version, l); len(got) != want {
			t.Errorf("Said(%d) of 500: %d", version, len(got))
		}
	}
}

// P14.3: what is said of fields that may be goes into a message of that format.
func TestWhatIsSaidCanBeSaid(t *testing.T) {
	for _, row := range rows() {
		for version := 1; version <= 3; version++ {
			m := api.Message{Kind: api.MsgGossip, To: 1, Version: version, Fields: message.Said(version, row.fields)}
			b, e := message.Encode(m)
			if e != api.OK || !message.Right(m) {
				t.Fatalf("Encode of %v: %d", brief(m), e)
			}
			if got, e := message.Decode(b); e != api.OK || !alike(got, m) {
				t.Errorf("Decode of %v: %v, %d", brief(m), brief(got), e)
			}
		}
	}
}
