package message_test

import (
	"slices"
	"testing"

	"usufruct/api"
	"usufruct/message"
)

// guardHold and guardField stand in the room behind guarded lists.
var guardHold = api.Hold{Replica: 9, Number: 9, Amount: 9, Due: 9, State: api.Held}

func guardField() api.Field {
	return holding(count("guard", 9, 9, 9, 9), api.Held)
}

// guarded is l, each list of it with room behind its end, in which something stands.
func guarded(l []api.Field) []api.Field {
	var g []api.Field
	for _, f := range l {
		f.Holds = append(slices.Clone(f.Holds), guardHold, guardHold)[:len(f.Holds)]
		g = append(g, f)
	}
	return append(g, guardField(), guardField())[:len(l)]
}

// untouched tells whether a list, and all room behind ends in it, are as guarded made them.
func untouched(g, was []api.Field) bool {
	if !alikeFields(g, was) || !alikeFields(g[:len(g)+2][len(g):], []api.Field{guardField(), guardField()}) {
		return false
	}
	for _, f := range g {
		n := len(f.Holds)
		if !slices.Equal(f.Holds[:n+2][n:], []api.Hold{guardHold, guardHold}) {
			return false
		}
	}
	return true
}

// scribble writes over a list and all its lists, their spare room too.
func scribble(l []api.Field) {
	l = l[:cap(l)]
	for i := range l {
		scribbleHolds(l[i].Holds)
		l[i] = api.Field{Name: "scribbled"}
	}
}

func scribbleHolds(h []api.Hold) {
	h = h[:cap(h)]
	for j := range h {
		h[j] = api.Hold{Replica: -77, Number: -77, Amount: -77, Due: -77, State: -77}
	}
}

func scribbleBytes(b []byte) {
	b = b[:cap(b)]
	for i := range b {
		b[i] = 0xee
	}
}

// full is a message with fields of all sorts.
func full() api.Message {
	return api.Message{Kind: api.MsgGossip, From: 2, To: 3, Version: 3, Number: 9, Fields: []api.Field{
		holding(count("a", 2, 5, 0, 10), api.Held, api.Kept), holding(worn("b", 7), api.Gone), holding(worn("c", 0), api.Held, api.Held, api.Gone), passed("l", 3, 1),
	}}
}

// frozen is a message with a plan.
func frozen() api.Message {
	return api.Message{Kind: api.MsgFreeze, From: 2, To: 3, Version: 3, Number: 9, Plan: api.Plan{Kind: api.Merge, Name: "abcdefgh", Other: "hgfedcba"}}
}

// Memory: what is handed to Encode is written over behind the call, all room of it, and the bytes stay; and the other way round.
func TestEncodeKeepsNothing(t *testing.T) {
	for _, m := range []api.Message{full(), frozen()} {
		in := m
		in.Fields = guarded(m.Fields)
		b, _ := message.Encode(in)
		again, _ := message.Encode(in)
		scribbleBytes(again)
		if !untouched(in.Fields, m.Fields) {
			t.Error("what was handed in is changed with the answer")
		}
		scribble(in.Fields)
		if string(b) != said(m) {
			t.Errorf("Encode: %x", b)
		}
	}
}

// Memory: the bytes that are handed to Decode are written over behind the call, and the message stays; and the other way round.
func TestDecodeKeepsNothing(t *testing.T) {
	for _, m := range []api.Message{full(), frozen()} {
		in := append([]byte(said(m)), behind...)[:len(said(m))]
		got, e := message.Decode(in)
		again, _ := message.Decode(in)
		scribble(again.Fields)
		if string(in[:len(in)+len(behind)]) != said(m)+behind {
			t.Error("what was handed in is changed with the answer")
		}
		scribbleBytes(in)
		if !alike(got, m) || e != api.OK {
			t.Errorf("Decode: %v, %d", brief(got), e)
		}
	}
}

// Memory: no list of what Decode tells shares any room with another one of it.
func TestDecodeSharesNothing(t *testing.T) {
	for i := range full().Fields {
		got, _ := message.Decode([]byte(said(full())))
		scribbleHolds(got.Fields[i].Holds)
		got.Fields[i] = full().Fields[i]
		if !alike(got, full()) {
			t.Error("holds are shared, of field", i)
		}
		spare := got.Fields[len(got.Fields):cap(got.Fields)]
		scribble(spare)
		if !alike(got, full()) {
			t.Error("spare room is shared")
		}
	}
}

// Memory: what is handed to Said is written over behind the call, all room of it, and the answer stays; and the other way round.
func TestSaidKeepsNothing(t *testing.T) {
	for version := 1; version <= 3; version++ {
		in := guarded(full().Fields)
		got, again := message.Said(version, in), message.Said(version, in)
		scribble(again)
		if !untouched(in, full().Fields) {
			t.Error("what was handed in is changed with the answer, format", version)
		}
		scribble(in)
		if want := left(version, full().Fields); !alikeFields(got, want) {
			t.Errorf("Said(%d): %v", version, brief(api.Message{Fields: got}))
		}
	}
}

// Memory: no list of what Said tells shares any room with another one of it.
func TestSaidSharesNothing(t *testing.T) {
	in := full().Fields
	in[0].Epoch, in[1].Epoch, in[3].Epoch = 0, 0, 0
	in = append(in, in...)
	for version := 1; version <= 3; version++ {
		want := left(version, in)
		for i := range want {
			got := message.Said(version, guarded(in))
			scribbleHolds(got[i].Holds)
			got[i] = want[i]
			scribble(got[len(got):cap(got)])
			if !alikeFields(got, want) {
				t.Errorf("Said(%d): holds of field %d are shared", version, i)
			}
		}
	}
}
