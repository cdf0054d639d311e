package wal_test

import (
	"bytes"
	"slices"
	"testing"

	"icehouse/api"
	"icehouse/disk"
	"icehouse/wal"
)

func TestOpenOfNil(t *testing.T) {
	if w, n, e := wal.Open(nil); w != nil || n != 0 || e != api.ErrNil {
		t.Errorf("Open of nil: %d bytes, error %d", n, e)
	}
}

func TestOpenOfNoBytes(t *testing.T) {
	holds(t, "Open", opened(t, "Open", disk.New(), 0), paper{})
	var d disk.Disk
	holds(t, "Open", opened(t, "Open of the zero disk", &d, 0), paper{})
}

// Wherever the tail begins, also within a frame, all records are found and durable.
func TestOpenOfRecords(t *testing.T) {
	for i := range len(many()) + 1 {
		l := many()[:i]
		b := framesOf(l...)
		for n := range len(b) + 1 {
			d := diskOf(t, b[:n], b[n:])
			w := opened(t, "Open", d, 0)
			holds(t, "Open", w, allLasting(l, 0))
			holdsDisk(t, "what was opened", d, b[:n], b[n:], 0)
		}
	}
}

// What is behind the records is cut off, whether it was durable or not, even if there
// are frames in it.
func TestOpenCutsOff(t *testing.T) {
	wrong := frameOf(1, []byte("x"))
	wrong[6]++
	good := frameOf(9, []byte("ok"))
	for i := range 4 {
		l := many()[:i]
		b := framesOf(l...)
		for name, rest := range map[string][]byte{
			"zeros":                         make([]byte, 100),
			"one byte":                      {1},
			"a first byte":                  {0xa5},
			"the beginning of a frame":      {0xa5, 1},
			"a frame without its last byte": good[:len(good)-1],
			"a great length":                {0xa5, 1, 0, 1, 0, 1},
			"a wrong check":                 wrong,
			"a wrong check, then a frame":   slices.Concat(wrong, good),
			"a byte, then a frame":          slices.Concat([]byte{0}, good),
			"a byte, then a snapshot":       slices.Concat([]byte{0}, frameOf(0, []byte("s"))),
		} {
			all := slices.Concat(b, rest)
			for _, n := range []int{0, len(b) / 2, len(b), len(b) + 1, len(all)} {
				d := diskOf(t, all[:n], all[n:])
				w := opened(t, name, d, len(rest))
				holds(t, name, w, allLasting(l, 0))
				holdsDisk(t, name+", what was opened", d, all[:n], all[n:], 0)
				answers(t, name, w.Append(5, []byte("more")), api.OK)
				holds(t, name+", then Append", w, paper{append(slices.Clone(l), rec(5, "more")), len(l), 0})
				answers(t, name, w.Sync(), api.OK)
				holds(t, name+", then Append and Sync", w, allLasting(append(slices.Clone(l), rec(5, "more")), 1))
			}
		}
	}
}

// If the bytes are cut anywhere, the complete records are found, and the rest of them
// is cut off.
func TestOpenOfCutBytes(t *testing.T) {
	l := many()
	b := framesOf(l...)
	for n := range len(b) + 1 {
		count, end := complete(l, n)
		for _, lasting := range []int{0, end, n} {
			w := opened(t, "Open of cut bytes", diskOf(t, b[:lasting], b[lasting:n]), n-end)
			holds(t, "Open of cut bytes", w, allLasting(l[:count], 0))
		}
	}
}

// complete returns how many of the records have all of their frames within n bytes,
// and how long these are.
func complete(l []api.Record, n int) (int, int) {
	end := 0
	for i, r := range l {
		size := len(frameOf(r.Kind, r.B))
		if end+size > n {
			return i, end
		}
		end += size
	}
	return len(l), end
}

// A changed byte ends the log before its record.
func TestOpenOfChangedBytes(t *testing.T) {
	l := many()
	b := framesOf(l...)
	for i := range b {
		for _, by := range []byte{1, 0x80, 0xff} {
			changed := bytes.Clone(b)
			changed[i] ^= by
			count, end := complete(l, i)
			w := opened(t, "Open of changed bytes", diskOf(t, changed, nil), len(b)-end)
			holds(t, "Open of changed bytes", w, allLasting(l[:count], 0))
		}
	}
}

// The records of kind 0 are found like others, and those before them stay.
func TestOpenOfSnapshots(t *testing.T) {
	l := []api.Record{rec(1, "a"), rec(0, "s"), rec(2, "b"), rec(0, ""), rec(0, "t"), rec(1, "c")}
	d := diskOf(t, framesOf(l...), nil)
	w := opened(t, "Open", d, 0)
	holds(t, "Open", w, allLasting(l, 0))
	answers(t, "Snapshot", w.Snapshot([]byte("u")), api.OK)
	holds(t, "Open and Snapshot", w, allLasting(recs(0, "u"), 0))
	holdsDisk(t, "what was opened", d, framesOf(l...), nil, 0)
}

// The log is on a copy of the disk, whose Syncs it has too.
func TestOpenKeepsSyncs(t *testing.T) {
	d := disk.New()
	for i := range 3 {
		answers(t, "Append to a disk", d.Append(frameOf(1, []byte{byte(i)})), api.OK)
		answers(t, "Sync of a disk", d.Sync(), api.OK)
	}
	answers(t, "Append to a disk", d.Append(frameOf(1, []byte{3}), []byte{0xa5, 1}), api.OK)
	want := recs(1, "\x00", "\x01", "\x02", "\x03")
	w := opened(t, "Open", d, 2)
	holds(t, "Open", w, allLasting(want, 3))
	answers(t, "Sync", w.Sync(), api.OK)
	holds(t, "Open and Sync", w, allLasting(want, 3))
}

// What a log tells of its disk makes another log with the same records.
func TestOpenOfItsDisk(t *testing.T) {
	for lasting := range len(many()) + 1 {
		w := logOf(t, many(), lasting)
		other := opened(t, "Open", w.Disk(), 0)
		holds(t, "Open", other, allLasting(many(), w.Disk().Syncs()))
		again := opened(t, "Open", other.Disk(), 0)
		holds(t, "Open twice", again, allLasting(many(), w.Disk().Syncs()))
	}
}

// Any bytes: all words of those that mean something in a frame.
func TestOpenOfAnyBytes(t *testing.T) {
	for last, n := [][]byte{nil}, 0; n <= 6; n++ {
		var longer [][]byte
		for _, b := range last {
			d := diskOf(t, b[:len(b)/2], b[len(b)/2:])
			holds(t, "Open of any bytes", opened(t, "Open of any bytes", d, len(b)), paper{})
			for _, c := range []byte{0xa5, 0, 1, 0xff} {
				longer = append(longer, append(slices.Clone(b), c))
			}
		}
		last = longer
	}
}
