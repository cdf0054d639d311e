package disk_test

import (
	"bytes"
	"slices"
	"strings"
	"testing"

	"icehouse/api"
	"icehouse/disk"
)

const most = 4194304

// full: as many bytes as a disk may have.
func full() []byte {
	return bytes.Repeat([]byte{'f'}, most)
}

func TestOfTooManyBytes(t *testing.T) {
	for _, n := range []int{most - 1, most} {
		holds(t, "Of", mustOf(t, full()[:n]), strings.Repeat("f", n), "", 0)
	}
	for _, n := range []int{most + 1, most + 2, 2 * most} {
		if d, e := disk.Of(make([]byte, n)); e != api.ErrLong || d != nil {
			t.Errorf("Of %d bytes: error %d", n, e)
		}
	}
}

func TestReplaceByTooManyBytes(t *testing.T) {
	for _, n := range []int{most + 1, most + 2, 2 * most} {
		d := diskOf(t, "ab", "cd")
		answers(t, "Replace", d.Replace(make([]byte, n)), api.ErrLong)
		holds(t, "Replace that fails", d, "ab", "cd", 0)
	}
}

// What is replaced does not count: neither durable bytes nor a tail.
func TestReplaceByAllBytes(t *testing.T) {
	for _, d := range []*disk.Disk{
		disk.New(),
		diskOf(t, "ab", "cd"),
		diskOf(t, strings.Repeat("x", most), ""),
		diskOf(t, "", strings.Repeat("x", most)),
		diskOf(t, "x", strings.Repeat("x", most-1)),
	} {
		answers(t, "Replace", d.Replace(full()), api.OK)
		holds(t, "Replace", d, string(full()), "", 0)
		answers(t, "Append to a full disk", d.Append([]byte("a")), api.ErrLong)
	}
}

// The durable bytes and the tail count together. All of the arguments are there or
// none, wherever among them the one is that is too long.
func TestAppendOfTooManyBytes(t *testing.T) {
	for _, c := range []struct {
		lasting, tail int
	}{
		{0, 0}, {3, 0}, {0, 3}, {3, 3}, {most / 2, most/2 - 5}, {most - 5, 0}, {0, most - 5}, {most - 1, 0}, {1, most - 2},
	} {
		lasting, tail := strings.Repeat("l", c.lasting), strings.Repeat("t", c.tail)
		room := most - c.lasting - c.tail
		rest := full()[:room]
		for name, l := range map[string][][]byte{
			"one argument":          {append(slices.Clone(rest), 'x')},
			"a last one":            {rest, []byte("x")},
			"a first one":           {[]byte("x"), rest},
			"one between":           {nil, rest[:room/2], []byte("x"), rest[room/2:], nil},
			"one behind the rest":   {rest, nil, []byte("x"), nil},
			"some that would do":    {[]byte("a"), append(slices.Clone(rest), 'x'), []byte("b")},
			"many more":             {full(), full()},
			"more, then none":       {append(slices.Clone(rest), 'x'), nil, {}},
			"half of it thrice":     {rest[:(room+1)/2], rest[:(room+1)/2], rest[:(room+1)/2]},
			"all, and more than it": {rest, rest},
		} {
			d := diskOf(t, lasting, tail)
			answers(t, name, d.Append(l...), api.ErrLong)
			holds(t, name, d, lasting, tail, 0)
			answers(t, name+", then the rest", d.Append(rest[:room/2], nil, rest[room/2:]), api.OK)
			holds(t, name+", then the rest", d, lasting, tail+string(rest), 0)
		}
	}
}

func TestAppendToFullDisk(t *testing.T) {
	for _, d := range []*disk.Disk{mustOf(t, full()), diskOf(t, "", string(full())), diskOf(t, "f", string(full()[1:]))} {
		lasting, tail := string(d.Lasting()), string(d.Tail())
		answers(t, "Append of no arguments", d.Append(), api.OK)
		answers(t, "Append of no bytes", d.Append(nil, []byte{}), api.OK)
		answers(t, "Append of one byte", d.Append([]byte("a")), api.ErrLong)
		answers(t, "Append of one byte behind none", d.Append(nil, []byte("a")), api.ErrLong)
		holds(t, "a full disk", d, lasting, tail, 0)
	}
}

// However many they are, up to 2^31 bytes: that modulo 2^16 or 2^22 they are few
// does not help.
func TestAppendOfManyLongArguments(t *testing.T) {
	for _, n := range []int{2, 3, 256, 511} {
		d := diskOf(t, "ab", "cd")
		answers(t, "Append", d.Append(slices.Repeat([][]byte{full()}, n)...), api.ErrLong)
		holds(t, "Append that fails", d, "ab", "cd", 0)
	}
}

// What is lost makes room, what becomes durable does not.
func TestRoom(t *testing.T) {
	d := diskOf(t, "", string(full()))
	answers(t, "Sync", d.Sync(), api.OK)
	answers(t, "Append after Sync", d.Append([]byte("a")), api.ErrLong)
	holds(t, "a full disk after Sync", d, string(full()), "", 1)
	d = diskOf(t, "ab", string(full()[2:]))
	answers(t, "Crash", d.Crash(3), api.OK)
	answers(t, "Append of too many bytes after Crash", d.Append(full()[4:]), api.ErrLong)
	answers(t, "Append after Crash", d.Append(full()[5:]), api.OK)
	holds(t, "a full disk after Crash", d, "abfff", string(full()[5:]), 0)
	answers(t, "Replace", d.Replace([]byte("x")), api.OK)
	answers(t, "Append of too many bytes after Replace", d.Append(full()), api.ErrLong)
	answers(t, "Append after Replace", d.Append(full()[1:]), api.OK)
	holds(t, "a full disk after Replace", d, "x", string(full()[1:]), 0)
}

// A disk is filled by many calls, with Syncs between them.
func TestFilledByManyCalls(t *testing.T) {
	d := disk.New()
	part := full()[:1000]
	for at := 0; at+len(part) <= most; at += len(part) {
		if e := d.Append(part[:1], part[1:]); e != api.OK {
			t.Fatalf("Append at %d: error %d", at, e)
		}
		if at%7 == 0 {
			d.Sync()
		}
	}
	answers(t, "Append of too many bytes", d.Append(part), api.ErrLong)
	rest := most % len(part)
	answers(t, "Append of too many bytes", d.Append(part[:rest], part[:1]), api.ErrLong)
	answers(t, "Append of the rest", d.Append(part[:rest]), api.OK)
	if !bytes.Equal(d.Bytes(), full()) {
		t.Error("other bytes than those that were appended")
	}
}
