package disk_test

import (
	"bytes"
	"math"
	"testing"

	"icehouse/api"
	"icehouse/disk"
)

// holds reports a fault unless the disk has those durable bytes, that tail, both
// in a row, and that count.
func holds(t *testing.T, name string, d *disk.Disk, lasting, tail string, syncs int) {
	t.Helper()
	if got := d.Lasting(); string(got) != lasting {
		t.Errorf("%s: %d durable bytes %.20q, not %d %.20q", name, len(got), got, len(lasting), lasting)
	}
	if got := d.Tail(); string(got) != tail {
		t.Errorf("%s: a tail of %d bytes %.20q, not %d %.20q", name, len(got), got, len(tail), tail)
	}
	if got := d.Bytes(); string(got) != lasting+tail {
		t.Errorf("%s: %d bytes %.20q, not %d %.20q", name, len(got), got, len(lasting+tail), lasting+tail)
	}
	if got := d.Syncs(); got != syncs {
		t.Errorf("%s: %d Syncs, not %d", name, got, syncs)
	}
}

// answers reports a fault unless a call returned that error.
func answers(t *testing.T, name string, got, want api.Errno) {
	t.Helper()
	if got != want {
		t.Errorf("%s: error %d, not %d", name, got, want)
	}
}

func mustOf(t *testing.T, b []byte) *disk.Disk {
	t.Helper()
	d, e := disk.Of(b)
	if e != api.OK || d == nil {
		t.Fatalf("Of %d bytes: error %d", len(b), e)
	}
	return d
}

// diskOf: a disk with those durable bytes and that tail.
func diskOf(t *testing.T, lasting, tail string) *disk.Disk {
	t.Helper()
	d := mustOf(t, []byte(lasting))
	answers(t, "Append", d.Append([]byte(tail)), api.OK)
	return d
}

func bytesOf(l ...string) [][]byte {
	var out [][]byte
	for _, s := range l {
		out = append(out, []byte(s))
	}
	return out
}

func TestNew(t *testing.T) {
	holds(t, "New", disk.New(), "", "", 0)
	d := disk.New()
	answers(t, "Append", d.Append([]byte("a")), api.OK)
	holds(t, "New and Append", d, "", "a", 0)
}

// The zero Disk has no bytes either.
func TestZero(t *testing.T) {
	var d disk.Disk
	holds(t, "the zero disk", &d, "", "", 0)
	answers(t, "Sync", d.Sync(), api.OK)
	answers(t, "Crash", d.Crash(1), api.OK)
	holds(t, "the zero disk after Sync and Crash", &d, "", "", 0)
	holds(t, "its copy", d.Copy(), "", "", 0)
	answers(t, "Append", d.Append([]byte("a")), api.OK)
	holds(t, "the zero disk after Append", &d, "", "a", 0)
}

func TestOf(t *testing.T) {
	for _, s := range []string{"", "a", "ab", "\x00", "\x00\xff\x00", "with a tail?"} {
		holds(t, "Of", mustOf(t, []byte(s)), s, "", 0)
	}
	holds(t, "Of nil", mustOf(t, nil), "", "", 0)
	d := mustOf(t, []byte("ab"))
	answers(t, "Crash", d.Crash(0), api.OK)
	holds(t, "Of and Crash", d, "ab", "", 0)
}

func TestAppend(t *testing.T) {
	for _, c := range []struct {
		l    [][]byte
		tail string
	}{
		{nil, ""},
		{[][]byte{}, ""},
		{[][]byte{nil}, ""},
		{[][]byte{nil, {}, nil}, ""},
		{bytesOf("a"), "a"},
		{bytesOf("a", "", "b"), "ab"},
		{bytesOf("", "ab"), "ab"},
		{bytesOf("ab", ""), "ab"},
		{bytesOf("b", "a"), "ba"},
		{bytesOf("abc", "d", "ef", "abc"), "abcdefabc"},
		{bytesOf("\x00", "\xff\x00"), "\x00\xff\x00"},
	} {
		d := disk.New()
		answers(t, "Append", d.Append(c.l...), api.OK)
		holds(t, "Append to no bytes", d, "", c.tail, 0)
		d = diskOf(t, "xy", "z")
		answers(t, "Append", d.Append(c.l...), api.OK)
		holds(t, "Append behind a tail", d, "xy", "z"+c.tail, 0)
		answers(t, "Append", d.Append(c.l...), api.OK)
		holds(t, "Append twice", d, "xy", "z"+c.tail+c.tail, 0)
	}
}

func TestAppendOfManyArguments(t *testing.T) {
	var l [][]byte
	var want []byte
	for i := range 3000 {
		l = append(l, bytes.Repeat([]byte{byte(i)}, i%7))
		want = append(want, l[i]...)
	}
	d := disk.New()
	answers(t, "Append", d.Append(l...), api.OK)
	holds(t, "many arguments", d, "", string(want), 0)
	one := disk.New()
	for _, b := range l {
		answers(t, "Append", one.Append(b), api.OK)
	}
	holds(t, "many calls", one, "", string(want), 0)
}

func TestSync(t *testing.T) {
	d := diskOf(t, "ab", "cd")
	answers(t, "Sync", d.Sync(), api.OK)
	holds(t, "Sync", d, "abcd", "", 1)
	answers(t, "Append", d.Append([]byte("e")), api.OK)
	answers(t, "Append", d.Append([]byte("f")), api.OK)
	holds(t, "Sync and Append", d, "abcd", "ef", 1)
	answers(t, "Sync", d.Sync(), api.OK)
	holds(t, "Sync twice", d, "abcdef", "", 2)
	answers(t, "Crash", d.Crash(0), api.OK)
	holds(t, "Sync and Crash", d, "abcdef", "", 2)
}

// Without a tail Sync changes nothing and does not count.
func TestSyncWithoutTail(t *testing.T) {
	for _, c := range []struct {
		name string
		do   func(d *disk.Disk)
		want string
	}{
		{"nothing", func(d *disk.Disk) {}, "ab"},
		{"Append of no arguments", func(d *disk.Disk) { d.Append() }, "ab"},
		{"Append of no bytes", func(d *disk.Disk) { d.Append(nil, []byte{}) }, "ab"},
		{"Append that fails", func(d *disk.Disk) { d.Append([]byte("c"), make([]byte, api.MaxDisk)) }, "ab"},
		{"Append and Replace", func(d *disk.Disk) { d.Append([]byte("c")); d.Replace([]byte("x")) }, "x"},
		{"Append and Crash(0)", func(d *disk.Disk) { d.Append([]byte("c")); d.Crash(0) }, "ab"},
		{"Append and Crash(1)", func(d *disk.Disk) { d.Append([]byte("cd")); d.Crash(1) }, "abc"},
	} {
		d := mustOf(t, []byte("ab"))
		c.do(d)
		for range 3 {
			answers(t, c.name, d.Sync(), api.OK)
			holds(t, c.name, d, c.want, "", 0)
		}
	}
}

func TestSyncs(t *testing.T) {
	d := disk.New()
	want := ""
	for i := range 300 {
		d.Append([]byte{byte(i)})
		want += string([]byte{byte(i)})
		d.Sync()
		d.Sync()
		holds(t, "Append and Sync", d, want, "", i+1)
	}
}

func TestReplace(t *testing.T) {
	for _, s := range []string{"", "a", "ab", "abc", "abcd", "xyzxyz", "\x00"} {
		for _, tail := range []string{"", "c", "cd"} {
			d := diskOf(t, "ab", tail)
			answers(t, "Replace", d.Replace([]byte(s)), api.OK)
			holds(t, "Replace", d, s, "", 0)
			answers(t, "Append", d.Append([]byte("z")), api.OK)
			holds(t, "Replace and Append", d, s, "z", 0)
			answers(t, "Sync", d.Sync(), api.OK)
			holds(t, "Replace, Append and Sync", d, s+"z", "", 1)
		}
	}
	d := diskOf(t, "ab", "c")
	answers(t, "Replace", d.Replace(nil), api.OK)
	holds(t, "Replace by nil", d, "", "", 0)
}

// Replace is no Sync: what was counted stays, and nothing is added.
func TestReplaceLeavesSyncs(t *testing.T) {
	d := diskOf(t, "", "a")
	d.Sync()
	d.Append([]byte("b"))
	answers(t, "Replace", d.Replace([]byte("x")), api.OK)
	holds(t, "Replace after Sync", d, "x", "", 1)
}

// A crash finds all of what was put in place of the bytes.
func TestReplaceIsAtomic(t *testing.T) {
	for _, kept := range []int{0, 1, 2, 3, 4, math.MaxInt} {
		d := diskOf(t, "ab", "cdef")
		answers(t, "Replace", d.Replace([]byte("xyz")), api.OK)
		answers(t, "Crash", d.Crash(kept), api.OK)
		holds(t, "Replace and Crash", d, "xyz", "", 0)
	}
}

func TestCrash(t *testing.T) {
	for _, lasting := range []string{"", "ab"} {
		for _, tail := range []string{"", "c", "cde"} {
			for _, kept := range []int{0, 1, 2, 3, 4, 5, 100, math.MaxInt32, math.MaxInt - 1, math.MaxInt} {
				d := diskOf(t, lasting, tail)
				answers(t, "Crash", d.Crash(kept), api.OK)
				want := lasting + tail[:min(kept, len(tail))]
				holds(t, "Crash", d, want, "", 0)
				answers(t, "Append", d.Append([]byte("z")), api.OK)
				holds(t, "Crash and Append", d, want, "z", 0)
			}
		}
	}
}

func TestCrashOfLessThanNothing(t *testing.T) {
	for _, kept := range []int{-1, -2, math.MinInt32, math.MinInt + 1, math.MinInt} {
		d := diskOf(t, "ab", "cde")
		answers(t, "Crash", d.Crash(kept), api.ErrArg)
		holds(t, "Crash", d, "ab", "cde", 0)
		empty := disk.New()
		answers(t, "Crash of no bytes", empty.Crash(kept), api.ErrArg)
		holds(t, "Crash of no bytes", empty, "", "", 0)
	}
}

// A crash is no Sync: what was counted stays, and nothing is added.
func TestCrashLeavesSyncs(t *testing.T) {
	d := diskOf(t, "", "a")
	d.Sync()
	for _, kept := range []int{0, 1, 2, -1} {
		d.Append([]byte("b"))
		d.Crash(kept)
		if got := d.Syncs(); got != 1 {
			t.Errorf("after Crash(%d) %d Syncs, not 1", kept, got)
		}
	}
}

// The chapter's example, and that of the whole document.
func TestExamples(t *testing.T) {
	d := disk.New()
	answers(t, "Append", d.Append([]byte("ab")), api.OK)
	answers(t, "Sync", d.Sync(), api.OK)
	answers(t, "Append", d.Append([]byte("cde")), api.OK)
	answers(t, "Crash", d.Crash(1), api.OK)
	holds(t, "the example", d, "abc", "", 1)
}

// ErrNil comes before every other error.
func TestNil(t *testing.T) {
	var d *disk.Disk
	long := make([]byte, api.MaxDisk+1)
	for name, e := range map[string]api.Errno{
		"Append of no arguments":    d.Append(),
		"Append":                    d.Append([]byte("a")),
		"Append of too many bytes":  d.Append(long),
		"Sync":                      d.Sync(),
		"Replace":                   d.Replace([]byte("a")),
		"Replace by nil":            d.Replace(nil),
		"Replace by too many bytes": d.Replace(long),
		"Crash(0)":                  d.Crash(0),
		"Crash(1)":                  d.Crash(1),
		"Crash(-1)":                 d.Crash(-1),
	} {
		answers(t, name, e, api.ErrNil)
	}
	holds(t, "nil", d, "", "", 0)
	if d.Copy() != nil {
		t.Error("the copy of nil is a disk")
	}
}
