package message_test

import (
	"math/rand/v2"
	"testing"

	"usufruct/api"
)

// P14.3: all rows of up to 7 bytes out of a few: each that is decoded is what its message is encoded as, so no other one is.
func TestDecodeAllShortRows(t *testing.T) {
	const letters = "\x00\x02\x04\x06\x08\x0a"
	right := 0
	var try func(b string, lacks int)
	try = func(b string, lacks int) {
		if _, e := decode(t, b); e == api.OK {
			right++
		}
		for i := 0; lacks > 0 && i < len(letters); i++ {
			try(b+letters[i:i+1], lacks-1)
		}
	}
	try("", 7)
	// From and To are 6 times 5, the formats 3, the numbers 6; of gossip, frozen and want one each, of decide two.
	if right != 6*5*3*6*5 {
		t.Error("messages of 7 bytes:", right)
	}
}

// P14.3: rows of small numbers behind what is right, so that fields and plans begin to be read.
func TestDecodeTails(t *testing.T) {
	const letters = "\x00\x01\x02\x04\x06\x08\x0a\x10al"
	for _, head := range []string{"\x02\x00\x02\x02\x00\x00", "\x04\x00\x02\x06\x00\x00\x00", "\x04\x00\x02\x06\x00\x00\x00\x06\x00", "\x08\x00\x02\x04\x00\x02\x02\x10\x04\x04\x02l"} {
		for n := range 100000 {
			b := head
			for k, i := n, 0; i < 5; k, i = k/10, i+1 {
				b += letters[k%10 : k%10+1]
			}
			decode(t, b)
		}
	}
}

// turned is a row of bytes with one change: a byte turned, one left out, one put in, two changed with one another, or a piece put elsewhere.
func turned(r *rand.Rand, b []byte) []byte {
	i, k := r.IntN(len(b)), r.IntN(len(b))
	n := append([]byte(nil), b...)
	switch r.IntN(6) {
	case 0:
		n[i] ^= 1 << r.IntN(8)
	case 1:
		n[i] = byte(r.IntN(256))
	case 2:
		return append(n[:i], n[i+1:]...)
	case 3:
		return append(n[:i], append([]byte{byte(r.IntN(256))}, b[i:]...)...)
	case 4:
		n[i], n[k] = n[k], n[i]
	default:
		return append(n[:i], b[k:]...)
	}
	return n
}

// P14.3: messages of which bytes were turned: what is decoded yet is another message, encoded as just these bytes.
func TestDecodeTurned(t *testing.T) {
	r := rand.New(rand.NewPCG(14, 3))
	right, seen := 0, map[api.Errno]int{}
	all := append(messages(), short()...)
	for range 40000 {
		m := all[r.IntN(len(all))]
		if r.IntN(2) == 0 {
			m = short()[r.IntN(len(short()))]
		}
		was := said(m)
		b := []byte(was)
		for range 1 + r.IntN(2) {
			b = turned(r, b)
			if len(b) == 0 {
				break
			}
		}
		got, e := decode(t, string(b))
		seen[e]++
		if e == api.OK && string(b) != was {
			right++
			if alike(got, m) {
				t.Fatalf("%x is decoded as %x is", b, was)
			}
		}
	}
	for _, e := range []api.Errno{api.OK, api.ErrRange, api.ErrShort, api.ErrForm, api.ErrMore, api.ErrVersion} {
		if seen[e] == 0 {
			t.Error("nothing told", e)
		}
	}
	if right < 1000 {
		t.Error("other messages:", right)
	}
}
