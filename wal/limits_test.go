package wal_test

import (
	"slices"
	"testing"

	"icehouse/api"
	"icehouse/wal"
)

const (
	mostRecord = 65536
	mostDisk   = 4194304
	head       = 10 // what a frame has beside the bytes of its record
)

// spread fills n bytes with something that tells places apart.
func spread(n int) []byte {
	out := make([]byte, n)
	for i := range out {
		out[i] = byte(i*151 + i>>8)
	}
	return out
}

// filled: a log whose disk has room for so many bytes more, and its records.
func filled(t *testing.T, room int) (*wal.Log, []api.Record) {
	t.Helper()
	w := wal.New()
	var l []api.Record
	for left := mostDisk - room; left > 0; {
		size := min(left, mostRecord+head)
		if rest := left - size; rest > 0 && rest < head {
			size -= head
		}
		l = append(l, api.Record{Kind: 1, B: spread(size - head)})
		answers(t, "Append", w.Append(1, l[len(l)-1].B), api.OK)
		left -= size
	}
	if got := len(w.Disk().Bytes()); got != mostDisk-room {
		t.Fatalf("the disk has %d bytes, not %d", got, mostDisk-room)
	}
	return w, l
}

func TestLongRecords(t *testing.T) {
	w := wal.New()
	var want []api.Record
	for _, n := range []int{255, 256, mostRecord - 1, mostRecord} {
		want = append(want, api.Record{Kind: 1, B: spread(n)})
		answers(t, "Append", w.Append(1, spread(n)), api.OK)
		holds(t, "Append", w, paper{want, 0, 0})
	}
	for _, n := range []int{255, 256, mostRecord - 1, mostRecord} {
		answers(t, "Snapshot", w.Snapshot(spread(n)), api.OK)
		holds(t, "Snapshot", w, allLasting([]api.Record{{B: spread(n)}}, 0))
	}
}

// One argument that is too long is enough, wherever it is: nothing is written.
func TestAppendOfTooLongRecords(t *testing.T) {
	w := logOf(t, recs(1, "a", "b"), 1)
	for _, n := range []int{mostRecord + 1, 2 * mostRecord, mostDisk + 1} {
		long := make([]byte, n)
		for _, l := range [][][]byte{
			{long}, {long, []byte("c")}, {[]byte("c"), long}, {[]byte("c"), long, []byte("d")}, {nil, nil, long}, {long, long},
		} {
			answers(t, "Append of too long records", w.Append(2, l...), api.ErrLong)
			holds(t, "Append of too long records", w, paper{recs(1, "a", "b"), 1, 1})
		}
	}
	answers(t, "Append", w.Append(2, []byte("c")), api.OK)
	holds(t, "Append after errors", w, paper{append(recs(1, "a", "b"), rec(2, "c")), 1, 1})
}

func TestSnapshotOfTooManyBytes(t *testing.T) {
	for lasting := range 3 {
		w := logOf(t, recs(1, "a", "b"), lasting)
		want := paper{recs(1, "a", "b"), lasting, w.Disk().Syncs()}
		for _, n := range []int{mostRecord + 1, 2 * mostRecord, mostDisk + 1} {
			answers(t, "Snapshot of too many bytes", w.Snapshot(make([]byte, n)), api.ErrLong)
			holds(t, "Snapshot of too many bytes", w, want)
		}
	}
}

// The frames count, with those of durable records: the disk takes all of them or none.
func TestAppendToFullDisk(t *testing.T) {
	for _, sync := range []bool{false, true} {
		for _, c := range []struct {
			room int
			fits [][]byte
			l    [][]byte
		}{
			{0, nil, [][]byte{nil}},
			{9, nil, [][]byte{nil}},
			{10, [][]byte{nil}, bytesOf("a")},
			{10, [][]byte{{}}, [][]byte{nil, nil}},
			{11, bytesOf("a"), bytesOf("ab")},
			{11, bytesOf("a"), bytesOf("", "a")},
			{21, bytesOf("", "a"), bytesOf("a", "a")},
			{21, bytesOf("a", ""), bytesOf("", "", "")},
			{50, [][]byte{spread(40)}, [][]byte{spread(41)}},
			{50, [][]byte{spread(20), spread(10)}, [][]byte{[]byte("a"), spread(60000), []byte("b")}},
			{mostRecord + head, [][]byte{spread(mostRecord)}, [][]byte{spread(mostRecord), nil}},
		} {
			w, l := filled(t, c.room)
			p := paper{l, 0, 0}
			if sync {
				answers(t, "Sync", w.Sync(), api.OK)
				p = allLasting(l, 1)
			}
			answers(t, "Append of too many bytes", w.Append(2, c.l...), api.ErrLong)
			holds(t, "Append of too many bytes", w, p)
			answers(t, "Append of no arguments", w.Append(2), api.OK)
			answers(t, "Append of all that there is room for", w.Append(2, c.fits...), api.OK)
			for _, b := range c.fits {
				p.records = append(p.records, api.Record{Kind: 2, B: b})
			}
			holds(t, "a full disk", w, p)
		}
	}
}

// On a full disk the errors of the arguments are the same; kind 0 comes first.
func TestErrorsOnFullDisk(t *testing.T) {
	w, l := filled(t, 0)
	answers(t, "Append of kind 0", w.Append(0, []byte("a")), api.ErrArg)
	answers(t, "Append of kind 0 and too many bytes", w.Append(0, make([]byte, mostRecord+1)), api.ErrArg)
	answers(t, "Append of too many bytes", w.Append(1, make([]byte, mostRecord+1)), api.ErrLong)
	holds(t, "errors on a full disk", w, paper{l, 0, 0})
	c := crashed(t, "a full disk", w, mostDisk)
	holds(t, "Crash of a full disk", c, allLasting(l, 0))
	answers(t, "Append after Crash", c.Append(1, nil), api.ErrLong)
	holds(t, "Open of a full disk", opened(t, "Open", w.Disk(), 0), allLasting(l, 0))
}

// What is replaced, lost or cut off makes room.
func TestRoom(t *testing.T) {
	w, l := filled(t, 0)
	last := l[len(l)-1]
	c := crashed(t, "a full disk", w, mostDisk-1)
	holds(t, "Crash", c, allLasting(l[:len(l)-1], 0))
	answers(t, "Append of too many bytes after Crash", c.Append(1, append(slices.Clone(last.B), 0)), api.ErrLong)
	answers(t, "Append after Crash", c.Append(last.Kind, last.B), api.OK)
	holds(t, "Crash and Append", c, paper{l, len(l) - 1, 0})
	answers(t, "Snapshot", w.Snapshot(spread(mostRecord)), api.OK)
	want := []api.Record{{B: spread(mostRecord)}}
	for range mostDisk/(mostRecord+head) - 1 {
		answers(t, "Append after Snapshot", w.Append(1, spread(mostRecord)), api.OK)
		want = append(want, api.Record{Kind: 1, B: spread(mostRecord)})
	}
	answers(t, "Append of too many bytes after Snapshot", w.Append(1, spread(mostRecord)), api.ErrLong)
	holds(t, "Snapshot and Append", w, paper{want, 1, 0})
	d := diskOf(t, framesOf(l[:len(l)-1]...), append([]byte{0xa5, 0}, last.B...))
	o := opened(t, "Open", d, len(last.B)+2)
	answers(t, "Append after Open", o.Append(last.Kind, last.B), api.OK)
	holds(t, "Open and Append", o, paper{l, len(l) - 1, 0})
}

// As many records as a disk has room for, by one call and by many.
func TestManyRecords(t *testing.T) {
	const most = mostDisk / head
	one := wal.New()
	answers(t, "Append of one too many", one.Append(1, make([][]byte, most+1)...), api.ErrLong)
	holds(t, "Append of one too many", one, paper{})
	answers(t, "Append", one.Append(1, make([][]byte, most)...), api.OK)
	want := slices.Repeat([]api.Record{{Kind: 1}}, most)
	holds(t, "Append of many", one, paper{want, 0, 0})
	w := wal.New()
	for i := range most {
		if e := w.Append(1, nil); e != api.OK || w.Pending()+w.Lasting() != i+1 {
			t.Fatalf("Append of record %d: error %d", i, e)
		}
		if i == most/2 {
			answers(t, "Sync", w.Sync(), api.OK)
		}
	}
	answers(t, "Append of one too many", w.Append(1, nil), api.ErrLong)
	holds(t, "many Appends", w, paper{want, most/2 + 1, 1})
	c := crashed(t, "many records", w, 9+10*1000)
	holds(t, "Crash of many records", c, allLasting(want[:most/2+1+1000], 1))
}

// However many arguments there are, up to 2^31 bytes: that modulo 2^22 they are few
// does not help.
func TestAppendOfManyLongRecords(t *testing.T) {
	w := logOf(t, recs(1, "a", "b"), 1)
	for _, n := range []int{64, 65, 128, 2048} {
		answers(t, "Append", w.Append(2, slices.Repeat([][]byte{spread(mostRecord)}, n)...), api.ErrLong)
		holds(t, "Append that fails", w, paper{recs(1, "a", "b"), 1, 1})
	}
}
