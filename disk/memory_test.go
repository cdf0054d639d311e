package disk_test

import (
	"slices"
	"testing"

	"icehouse/api"
	"icehouse/disk"
)

// spoil overwrites a slice up to its capacity.
func spoil(b []byte) {
	b = b[:cap(b)]
	for i := range b {
		b[i] = 0xee
	}
}

// Results are new memory: what becomes of them, and of their spare capacity, is
// seen neither in the disk nor in other results.
func TestResultsAreNewMemory(t *testing.T) {
	for _, c := range [][2]string{{"", ""}, {"ab", ""}, {"", "cd"}, {"ab", "cde"}} {
		d := diskOf(t, "", c[0])
		d.Sync()
		d.Append([]byte(c[1]))
		syncs := d.Syncs()
		calls := []func() []byte{d.Lasting, d.Tail, d.Bytes}
		for i, call := range calls {
			others := [][]byte{d.Lasting(), d.Tail(), d.Bytes()}
			spoil(call())
			holds(t, "a disk whose results are overwritten", d, c[0], c[1], syncs)
			for j, want := range []string{c[0], c[1], c[0] + c[1]} {
				if string(others[j]) != want {
					t.Errorf("result %d is overwritten by way of result %d", j, i)
				}
			}
		}
	}
}

// What the disk does later is not seen in what it returned before.
func TestResultsStay(t *testing.T) {
	d := diskOf(t, "ab", "cdef")
	lasting, tail, all := d.Lasting(), d.Tail(), d.Bytes()
	d.Crash(1)
	d.Append([]byte("uvwxyz"))
	d.Sync()
	d.Append([]byte("0123456789"))
	d.Replace([]byte("!"))
	d.Append([]byte("0123456789"))
	if string(lasting) != "ab" || string(tail) != "cdef" || string(all) != "abcdef" {
		t.Errorf("what was returned is now %q, %q and %q", lasting, tail, all)
	}
}

// An argument is neither changed nor kept, nor is what lies behind it, nor the
// list of arguments.
func TestArgumentsAreLeftAlone(t *testing.T) {
	for name, do := range map[string]func(b []byte) *disk.Disk{
		"Of": func(b []byte) *disk.Disk {
			d, _ := disk.Of(b)
			return d
		},
		"Replace": func(b []byte) *disk.Disk {
			d := disk.New()
			d.Replace(b)
			return d
		},
		"Append": func(b []byte) *disk.Disk {
			d := disk.New()
			d.Append(b)
			return d
		},
		"Append of two": func(b []byte) *disk.Disk {
			d := disk.New()
			d.Append(b[:1], b[1:])
			return d
		},
	} {
		whole := []byte("abcbehind")
		d := do(whole[:3])
		kept := 1 + len(d.Tail())
		d.Append([]byte("de"))
		if string(whole) != "abcbehind" {
			t.Errorf("%s: the argument is now %q", name, whole)
		}
		spoil(whole)
		if string(d.Bytes()) != "abcde" {
			t.Errorf("%s: what becomes of the argument is seen in the disk: %q", name, d.Bytes())
		}
		d.Crash(kept)
		spoil(whole)
		holds(t, name, d, "abcd", "", 0)
	}
	l := bytesOf("a", "bc", "d")
	list := slices.Clone(l)
	d := disk.New()
	d.Append(list[:2]...)
	for i, b := range list {
		if &b[0] != &l[i][0] || len(b) != len(l[i]) {
			t.Errorf("argument %d is another one", i)
		}
	}
	list[0], list[1] = []byte("x"), nil
	holds(t, "another list", d, "", "abc", 0)
}

// Bytes that a disk returned may be appended to it, and put in their place.
func TestOwnBytes(t *testing.T) {
	d := diskOf(t, "ab", "cd")
	answers(t, "Append", d.Append(d.Tail(), d.Lasting(), d.Bytes()), api.OK)
	holds(t, "Append of its own bytes", d, "ab", "cdcdababcd", 0)
	answers(t, "Replace", d.Replace(d.Tail()), api.OK)
	holds(t, "Replace by its own tail", d, "cdcdababcd", "", 0)
}

// A copy has the same durable bytes, tail and count.
func TestCopy(t *testing.T) {
	d := disk.New()
	holds(t, "the copy of no bytes", d.Copy(), "", "", 0)
	d.Append([]byte("ab"))
	holds(t, "the copy of a tail", d.Copy(), "", "ab", 0)
	d.Sync()
	holds(t, "the copy of durable bytes", d.Copy(), "ab", "", 1)
	d.Append([]byte("cde"))
	holds(t, "the copy of both", d.Copy(), "ab", "cde", 1)
	holds(t, "the copy of a copy", d.Copy().Copy(), "ab", "cde", 1)
	holds(t, "what was copied", d, "ab", "cde", 1)
	if d.Copy() == d || d.Copy() == d.Copy() {
		t.Error("a copy is no other disk")
	}
}

// Whatever happens to one disk is not seen in others: copies, those made of the
// same bytes, and new ones.
func TestDisksAreIndependent(t *testing.T) {
	b := []byte("ab")
	for _, do := range []func(d *disk.Disk){
		func(d *disk.Disk) { d.Append([]byte("x")); d.Append([]byte("y"), []byte("zzzzzzzzzzzzzzzz")) },
		func(d *disk.Disk) { d.Sync(); d.Append([]byte("x")); d.Sync() },
		func(d *disk.Disk) { d.Replace([]byte("x")); d.Append([]byte("y")) },
		func(d *disk.Disk) { d.Replace(nil) },
		func(d *disk.Disk) { d.Crash(0); d.Append([]byte("xyz")); d.Sync() },
		func(d *disk.Disk) { d.Crash(1); d.Append([]byte("xyz")); d.Sync() },
		func(d *disk.Disk) { d.Crash(9); d.Append([]byte("xyz")); d.Crash(2) },
	} {
		first := mustOf(t, b)
		first.Append([]byte("cd"))
		first.Sync()
		first.Append([]byte("ef"))
		first.Append([]byte("g"))
		second := first.Copy()
		do(first)
		holds(t, "a copy", second, "abcd", "efg", 1)
		third := second.Copy()
		before := first.Bytes()
		do(second)
		holds(t, "what was copied", third, "abcd", "efg", 1)
		if string(first.Bytes()) != string(before) || string(second.Bytes()) != string(before) {
			t.Errorf("the same calls make %q and %q of the same contents", first.Bytes(), second.Bytes())
		}
		do(mustOf(t, b))
		holds(t, "a disk of the same bytes", mustOf(t, b), "ab", "", 0)
		do(disk.New())
		holds(t, "a new disk", disk.New(), "", "", 0)
	}
}
