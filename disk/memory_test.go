package disk_test

import (
	"math/rand/v2"
	"slices"
	"testing"

	"usufruct/api"
	"usufruct/disk"
)

// holding is a disk with a text on it, of which nothing is safe, or all.
func holding(t *testing.T, row string, safe bool) *disk.Disk {
	t.Helper()
	d := disk.New(4)
	e := d.Append([]byte(row))
	if safe {
		d.Sync()
	}
	if e != api.OK || string(d.Bytes()) != row {
		t.Fatalf("Append of %d bytes: %d, %x", len(row), e, d.Bytes())
	}
	return d
}

// P11.1: what is told is new memory each time, ends where it ends, and stays as it was whatever the disk does from then on.
func TestTold(t *testing.T) {
	for _, n := range []int{0, 1, 5, 31, 32, 33, 63, 64, 65, 100, 200, 255, 256} {
		row := mixed(n, 1)
		for i, do := range []func(d *disk.Disk){
			func(d *disk.Disk) { d.Append([]byte("xyz")) },
			func(d *disk.Disk) { d.Sync() },
			func(d *disk.Disk) { d.Cut(0); d.Append([]byte(mixed(256, 2))) },
			func(d *disk.Disk) { d.Cut(n / 2); d.Append([]byte(mixed(100, 2))) },
			func(d *disk.Disk) { d.Swap([]byte(mixed(n, 3))) },
			func(d *disk.Disk) { d.Crash(0, 0); d.Append([]byte(mixed(256, 2))) },
		} {
			for _, safe := range []bool{false, true} {
				d := holding(t, row, safe)
				one, two := d.Bytes(), d.Bytes()
				do(d)
				if string(one) != row || string(two) != row || cap(one) != n {
					t.Fatalf("%d bytes were told, behind call %d they are %x, with room for %d", n, i, one, cap(one))
				}
				now := string(d.Bytes())
				scribble(one)
				if string(two) != row || string(d.Bytes()) != now {
					t.Fatalf("%d bytes were told that another answer, or the disk, shares", n)
				}
			}
		}
	}
}

// P11.1: who puts more behind what was told puts nothing on the disk; nor does the disk put anything behind it.
func TestBehindTold(t *testing.T) {
	for n := range 130 {
		row := mixed(n, 1)
		d := holding(t, row, n%2 == 0)
		told := d.Bytes()
		longer := append(told, "mine"...)
		d.Append([]byte("ours"))
		if string(longer) != row+"mine" || string(d.Bytes()) != row+"ours" {
			t.Fatalf("%d bytes: %x was told, %x is on the disk", n, longer, d.Bytes())
		}
		shorter := append(told[:n/2], "mine"...)
		if string(d.Bytes()) != row+"ours" || string(shorter) != row[:n/2]+"mine" {
			t.Fatalf("%d bytes: the disk has %x", n, d.Bytes())
		}
	}
}

// P11.1: what is appended or swapped is left as it was, with the room behind its end, and not kept: not even where it is all that the disk has.
func TestHandedIn(t *testing.T) {
	for _, ahead := range []int{0, 1, 64, 100} {
		for _, n := range []int{0, 1, 63, 64, 65, 100} {
			b := mixed(n, 2)
			d := holding(t, mixed(ahead, 1), false)
			in := guarded(b)
			e := d.Append(in)
			if e != api.OK || !untouched(in, b) {
				t.Fatalf("Append of %d bytes behind %d: %d, %x", n, ahead, e, in[:cap(in)])
			}
			scribble(in)
			if string(d.Bytes()) != mixed(ahead, 1)+b {
				t.Fatalf("Append of %d bytes behind %d keeps them", n, ahead)
			}
			in = guarded(b)
			e = d.Swap(in)
			d.Append([]byte("more"))
			if e != api.OK || !untouched(in, b) {
				t.Fatalf("Swap of %d bytes, and more: %d, %x", n, e, in[:cap(in)])
			}
			scribble(in)
			if string(d.Bytes()) != b+"more" {
				t.Fatalf("Swap of %d bytes keeps them", n)
			}
		}
	}
}

// P11.1: what is refused is left as it was, too.
func TestRefused(t *testing.T) {
	d := holding(t, mixed(250, 1), true)
	for _, n := range []int{7, 64, 257, 1000, whole + 1} {
		b := mixed(n, 2)
		in := guarded(b)
		if e := d.Append(in); e != api.ErrFull || !untouched(in, b) {
			t.Errorf("Append of %d bytes: %d", n, e)
		}
		if n <= 256 {
			continue
		}
		if e := d.Swap(in); e != api.ErrFull || !untouched(in, b) {
			t.Errorf("Swap of %d bytes: %d", n, e)
		}
	}
	if string(d.Bytes()) != mixed(250, 1) || d.Safe() != 250 || d.Room() != 6 {
		t.Errorf("behind what was refused: %d bytes, %d safe, room for %d", len(d.Bytes()), d.Safe(), d.Room())
	}
}

// P11.1: a disk takes its own bytes, as it told them, and those of another disk.
func TestOwnBytes(t *testing.T) {
	d := holding(t, "abc", true)
	d.Append(d.Bytes())
	if string(d.Bytes()) != "abcabc" || d.Safe() != 3 {
		t.Errorf("its own bytes behind them: %q, %d safe", d.Bytes(), d.Safe())
	}
	told := d.Bytes()
	d.Swap(told[2:4])
	scribble(told)
	if string(d.Bytes()) != "ca" || d.Safe() != 2 {
		t.Errorf("a piece of its own: %q, %d safe", d.Bytes(), d.Safe())
	}
	other := holding(t, "xy", false)
	other.Swap(d.Bytes())
	other.Append([]byte("!"))
	d.Append([]byte("?"))
	if string(d.Bytes()) != "ca?" || string(other.Bytes()) != "ca!" || d.Safe() != 2 || other.Safe() != 2 {
		t.Errorf("two disks: %q, %q", d.Bytes(), other.Bytes())
	}
}

// P11.1: two disks that were given one and the same bytes, with room behind them, do not meet there.
func TestSameBytes(t *testing.T) {
	for _, swap := range []bool{false, true} {
		in := guarded("one")
		a, b := disk.New(1), disk.New(1)
		for _, d := range []*disk.Disk{a, b} {
			if swap {
				d.Swap(in)
			} else {
				d.Append(in)
			}
		}
		a.Append([]byte("a"))
		b.Append([]byte("bb"))
		if string(a.Bytes()) != "onea" || string(b.Bytes()) != "onebb" || !untouched(in, "one") {
			t.Errorf("two disks: %q, %q; what was handed in: %q", a.Bytes(), b.Bytes(), in[:cap(in)])
		}
		a.Cut(0)
		a.Append([]byte("12345"))
		a.Sync()
		b.Crash(0, 4)
		if string(a.Bytes()) != "12345" || a.Safe() != 5 || b.Safe() != map[bool]int{false: 4, true: 5}[swap] {
			t.Errorf("two disks: %q, %d safe; %d safe", a.Bytes(), a.Safe(), b.Safe())
		}
	}
}

// P11.1, P11.2: many disks of which each goes its own way, call by call in turn, as if it were alone.
func TestManyDisks(t *testing.T) {
	chance := rand.New(rand.NewPCG(11, 2))
	for range 60 {
		var all []*pair
		for k := range 6 {
			all = append(all, paired(t, k+1))
		}
		for range 200 {
			k := chance.IntN(len(all))
			all[k].act(chance)
			for _, p := range all {
				p.same("a call of another disk")
			}
		}
	}
}

// P11.1: what is answered hangs on the bytes handed in alone, not on their room, nor on whether they are nil.
func TestRoomCountsNot(t *testing.T) {
	shapes := []func(b string) []byte{
		func(b string) []byte { return []byte(b) },
		guarded,
		func(b string) []byte { return append(make([]byte, 0, 1000), b...) },
		func(b string) []byte { return slices.Clip([]byte(b)) },
		func(b string) []byte { return append([]byte(nil), b...) },
	}
	for _, shape := range shapes {
		d := disk.New(2)
		var answers []api.Errno
		for _, n := range []int{0, 60, 69, 68, 0, 1} {
			answers = append(answers, d.Append(shape(mixed(n, n))))
		}
		for _, n := range []int{129, 128, 0, 3} {
			answers = append(answers, d.Swap(shape(mixed(n, n))))
		}
		full := api.ErrFull
		if !slices.Equal(answers, []api.Errno{0, 0, full, 0, 0, full, full, 0, 0, 0}) || string(d.Bytes()) != mixed(3, 3) || d.Room() != 125 {
			t.Errorf("answers %v, %x, room for %d", answers, d.Bytes(), d.Room())
		}
	}
}
