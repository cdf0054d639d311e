package wal_test

import (
	"bytes"
	"encoding/binary"
	"hash/fnv"
	"slices"
	"testing"

	"icehouse/api"
	"icehouse/disk"
	"icehouse/wal"
)

// frameOf: a frame by the words of layers 4 and 5.
func frameOf(kind byte, b []byte) []byte {
	out := binary.BigEndian.AppendUint32([]byte{0xa5, kind}, uint32(len(b)))
	out = append(out, b...)
	h := fnv.New64a()
	h.Write(out)
	return binary.BigEndian.AppendUint32(out, uint32(h.Sum64()>>32)^uint32(h.Sum64()))
}

func framesOf(l ...api.Record) []byte {
	var out []byte
	for _, r := range l {
		out = append(out, frameOf(r.Kind, r.B)...)
	}
	return out
}

func rec(kind byte, s string) api.Record {
	return api.Record{Kind: kind, B: []byte(s)}
}

// recs: records of one kind.
func recs(kind byte, l ...string) []api.Record {
	var out []api.Record
	for _, s := range l {
		out = append(out, rec(kind, s))
	}
	return out
}

func bytesOf(l ...string) [][]byte {
	var out [][]byte
	for _, s := range l {
		out = append(out, []byte(s))
	}
	return out
}

func alike(a, b []api.Record) bool {
	return slices.EqualFunc(a, b, func(x, y api.Record) bool { return x.Kind == y.Kind && bytes.Equal(x.B, y.B) })
}

// paper is a log by the chapter's words.
type paper struct {
	records []api.Record
	lasting int
	syncs   int
}

// last: the bytes of the last record of kind 0, and all records after it.
func (p paper) last() ([]byte, []api.Record) {
	var b []byte
	l := p.records
	for i, r := range p.records {
		if r.Kind == 0 {
			b, l = r.B, p.records[i+1:]
		}
	}
	return b, l
}

// allLasting: a log of these records, all of them durable.
func allLasting(l []api.Record, syncs int) paper {
	return paper{l, len(l), syncs}
}

// holds reports a fault unless the log is as on paper, by all that it tells.
func holds(t *testing.T, name string, w *wal.Log, p paper) {
	t.Helper()
	if got := w.Records(); !alike(got, p.records) {
		t.Errorf("%s: the records are %.200q, not %.200q", name, got, p.records)
	}
	if got, want := w.Lasting(), p.lasting; got != want {
		t.Errorf("%s: %d records are durable, not %d", name, got, want)
	}
	if got, want := w.Pending(), len(p.records)-p.lasting; got != want {
		t.Errorf("%s: %d records are pending, not %d", name, got, want)
	}
	b, l := w.Last()
	if wantB, wantL := p.last(); !bytes.Equal(b, wantB) || !alike(l, wantL) {
		t.Errorf("%s: the last snapshot is %.20q with %d records after it, not %.20q with %d", name, b, len(l), wantB, len(wantL))
	}
	holdsDisk(t, name, w.Disk(), framesOf(p.records[:p.lasting]...), framesOf(p.records[p.lasting:]...), p.syncs)
}

func holdsDisk(t *testing.T, name string, d *disk.Disk, lasting, tail []byte, syncs int) {
	t.Helper()
	if d == nil {
		t.Errorf("%s: there is no disk", name)
		return
	}
	if got := d.Lasting(); !bytes.Equal(got, lasting) {
		t.Errorf("%s: the disk has %d durable bytes %.40x, not %d %.40x", name, len(got), got, len(lasting), lasting)
	}
	if got := d.Tail(); !bytes.Equal(got, tail) {
		t.Errorf("%s: the disk has a tail of %d bytes %.40x, not %d %.40x", name, len(got), got, len(tail), tail)
	}
	if got := d.Syncs(); got != syncs {
		t.Errorf("%s: the disk has %d Syncs, not %d", name, got, syncs)
	}
}

// answers reports a fault unless a call returned that error.
func answers(t *testing.T, name string, got, want api.Errno) {
	t.Helper()
	if got != want {
		t.Errorf("%s: error %d, not %d", name, got, want)
	}
}

// diskOf: a disk with those durable bytes and that tail.
func diskOf(t *testing.T, lasting, tail []byte) *disk.Disk {
	t.Helper()
	d, e := disk.Of(lasting)
	answers(t, "Of", e, api.OK)
	answers(t, "Append to a disk", d.Append(tail), api.OK)
	return d
}

// opened reports a fault unless Open cuts off so many bytes, and returns its log.
func opened(t *testing.T, name string, d *disk.Disk, cut int) *wal.Log {
	t.Helper()
	w, n, e := wal.Open(d)
	if e != api.OK || w == nil {
		t.Fatalf("%s: error %d", name, e)
	}
	if n != cut {
		t.Errorf("%s: %d bytes were cut off, not %d", name, n, cut)
	}
	return w
}

// logOf: a log of those records, the first lasting ones durable by one Sync, if there
// are any.
func logOf(t *testing.T, l []api.Record, lasting int) *wal.Log {
	t.Helper()
	w := wal.New()
	for i, r := range l {
		if i == lasting {
			answers(t, "Sync", w.Sync(), api.OK)
		}
		answers(t, "Append", w.Append(r.Kind, r.B), api.OK)
	}
	if lasting == len(l) {
		answers(t, "Sync", w.Sync(), api.OK)
	}
	return w
}

// many: as few records as show the edges of a row: empty ones, and bytes that look
// like a frame or a part of one.
func many() []api.Record {
	return []api.Record{
		rec(1, "a"), rec(1, ""), rec(255, "bcd"), rec(2, ""), rec(1, "\xa5"), rec(0xa5, "\xa5\xa5\x00\x00"),
		{Kind: 3, B: frameOf(4, []byte("inner"))}, {Kind: 3, B: frameOf(0, []byte("inner"))[:9]}, rec(1, "a"), rec(7, "\x00"),
	}
}

func TestNew(t *testing.T) {
	holds(t, "New", wal.New(), paper{})
	if wal.New() == wal.New() {
		t.Error("New returns a log twice")
	}
}

// The zero Log has no records either.
func TestZero(t *testing.T) {
	var w wal.Log
	holds(t, "the zero log", &w, paper{})
	answers(t, "Sync", w.Sync(), api.OK)
	answers(t, "Append of kind 0", w.Append(0, []byte("a")), api.ErrArg)
	c, e := w.Crash(3)
	answers(t, "Crash", e, api.OK)
	holds(t, "the zero log after a crash", c, paper{})
	answers(t, "Append", w.Append(1, []byte("a")), api.OK)
	holds(t, "the zero log after Append", &w, paper{recs(1, "a"), 0, 0})
	var v wal.Log
	answers(t, "Snapshot", v.Snapshot([]byte("a")), api.OK)
	holds(t, "the zero log after Snapshot", &v, allLasting(recs(0, "a"), 0))
}

// Whatever else is wrong, ErrNil comes first; without an error there is nothing.
func TestNil(t *testing.T) {
	var w *wal.Log
	long := make([]byte, api.MaxRecord+1)
	answers(t, "Append", w.Append(1, []byte("a")), api.ErrNil)
	answers(t, "Append of nothing", w.Append(1), api.ErrNil)
	answers(t, "Append of kind 0", w.Append(0, []byte("a")), api.ErrNil)
	answers(t, "Append of too many bytes", w.Append(0, long), api.ErrNil)
	answers(t, "Sync", w.Sync(), api.ErrNil)
	answers(t, "Snapshot", w.Snapshot([]byte("a")), api.ErrNil)
	answers(t, "Snapshot of too many bytes", w.Snapshot(long), api.ErrNil)
	for _, kept := range []int{0, 1, -1} {
		c, e := w.Crash(kept)
		answers(t, "Crash", e, api.ErrNil)
		if c != nil {
			t.Errorf("Crash(%d) of nil returns a log", kept)
		}
	}
	if l := w.Records(); len(l) != 0 {
		t.Errorf("nil has the records %q", l)
	}
	if w.Lasting() != 0 || w.Pending() != 0 {
		t.Errorf("nil has %d durable records and %d others", w.Lasting(), w.Pending())
	}
	if b, l := w.Last(); len(b) != 0 || len(l) != 0 {
		t.Errorf("nil has the snapshot %q and the records %q", b, l)
	}
	if w.Disk() != nil {
		t.Error("nil has a disk")
	}
}

func TestAppend(t *testing.T) {
	for _, l := range [][]string{nil, {""}, {"a"}, {"", ""}, {"a", "", "b"}, {"b", "a", "a"}, {"\xa5", "\x00\xff"}} {
		for _, kind := range []byte{1, 2, 0xa5, 254, 255} {
			w := wal.New()
			answers(t, "Append", w.Append(kind, bytesOf(l...)...), api.OK)
			holds(t, "Append", w, paper{recs(kind, l...), 0, 0})
			answers(t, "Append", w.Append(3, []byte("x")), api.OK)
			holds(t, "Append twice", w, paper{append(recs(kind, l...), rec(3, "x")), 0, 0})
			answers(t, "Sync", w.Sync(), api.OK)
			answers(t, "Append", w.Append(kind, bytesOf(l...)...), api.OK)
			want := slices.Concat(recs(kind, l...), recs(3, "x"), recs(kind, l...))
			holds(t, "Append behind durable records", w, paper{want, len(l) + 1, 1})
		}
	}
}

func TestAppendOfNothing(t *testing.T) {
	w := logOf(t, recs(1, "a", "b"), 1)
	answers(t, "Append of no arguments", w.Append(1), api.OK)
	answers(t, "Append of an empty list", w.Append(1, [][]byte{}...), api.OK)
	holds(t, "Append of nothing", w, paper{recs(1, "a", "b"), 1, 1})
	answers(t, "Append of nil", w.Append(1, nil), api.OK)
	holds(t, "Append of nil", w, paper{recs(1, "a", "b", ""), 1, 1})
}

func TestAppendOfEachKind(t *testing.T) {
	w := wal.New()
	var want []api.Record
	for kind := range 256 {
		e := api.OK
		if kind == 0 {
			e = api.ErrArg
		} else {
			want = append(want, recs(byte(kind), "k", "")...)
		}
		answers(t, "Append", w.Append(byte(kind), []byte("k"), nil), e)
	}
	holds(t, "each kind", w, paper{want, 0, 0})
}

// A record of kind 0 is written by Snapshot alone; that error comes before the others.
func TestAppendOfKindZero(t *testing.T) {
	w := logOf(t, recs(1, "a", "b"), 1)
	for _, l := range [][][]byte{nil, {nil}, bytesOf("a"), bytesOf("a", "b"), {make([]byte, api.MaxRecord+1)}, {nil, make([]byte, api.MaxDisk)}} {
		answers(t, "Append of kind 0", w.Append(0, l...), api.ErrArg)
		holds(t, "Append of kind 0", w, paper{recs(1, "a", "b"), 1, 1})
	}
}

func TestSync(t *testing.T) {
	w := wal.New()
	answers(t, "Sync", w.Sync(), api.OK)
	holds(t, "Sync of nothing", w, paper{})
	answers(t, "Append", w.Append(1, []byte("a"), []byte("b")), api.OK)
	answers(t, "Sync", w.Sync(), api.OK)
	holds(t, "Sync", w, allLasting(recs(1, "a", "b"), 1))
	answers(t, "Sync", w.Sync(), api.OK)
	holds(t, "Sync twice", w, allLasting(recs(1, "a", "b"), 1))
	answers(t, "Append", w.Append(1, nil), api.OK)
	holds(t, "Append after Sync", w, paper{recs(1, "a", "b", ""), 2, 1})
	answers(t, "Sync", w.Sync(), api.OK)
	holds(t, "Sync of a record without bytes", w, allLasting(recs(1, "a", "b", ""), 2))
}

func TestSnapshot(t *testing.T) {
	for _, b := range []string{"", "s", "snap", "\xa5\x00", string(frameOf(1, []byte("inner")))} {
		for lasting := range 4 {
			w := logOf(t, recs(1, "a", "b", "c"), lasting)
			syncs := min(lasting, 1)
			answers(t, "Snapshot", w.Snapshot([]byte(b)), api.OK)
			holds(t, "Snapshot", w, allLasting(recs(0, b), syncs))
			answers(t, "Append", w.Append(4, []byte("d")), api.OK)
			want := append(recs(0, b), rec(4, "d"))
			holds(t, "Snapshot and Append", w, paper{want, 1, syncs})
			answers(t, "Sync", w.Sync(), api.OK)
			holds(t, "Snapshot, Append and Sync", w, allLasting(want, syncs+1))
			answers(t, "Snapshot", w.Snapshot([]byte("z")), api.OK)
			holds(t, "a second Snapshot", w, allLasting(recs(0, "z"), syncs+1))
		}
	}
	w := wal.New()
	answers(t, "Snapshot of nil", w.Snapshot(nil), api.OK)
	holds(t, "Snapshot of nil", w, allLasting(recs(0, ""), 0))
	answers(t, "Snapshot of nil", w.Snapshot(nil), api.OK)
	holds(t, "Snapshot of nil twice", w, allLasting(recs(0, ""), 0))
}

// Only an opened disk can have several records of kind 0, or others before one.
func TestLast(t *testing.T) {
	for _, c := range []struct {
		l    []api.Record
		b    string
		from int
	}{
		{nil, "", 0},
		{recs(1, "a"), "", 0},
		{recs(1, "a", "b"), "", 0},
		{recs(0, "s"), "s", 1},
		{recs(0, "s", "t", "u"), "u", 3},
		{recs(0, "s", ""), "", 2},
		{[]api.Record{rec(0, "s"), rec(1, "a")}, "s", 1},
		{[]api.Record{rec(1, "a"), rec(0, "s")}, "s", 2},
		{[]api.Record{rec(1, "a"), rec(0, "s"), rec(255, "b"), rec(1, "c")}, "s", 2},
		{[]api.Record{rec(0, "s"), rec(1, "a"), rec(0, "t"), rec(1, "b"), rec(2, "0")}, "t", 3},
		{[]api.Record{rec(0, "s"), rec(1, "a"), rec(0, ""), rec(1, "b")}, "", 3},
		{[]api.Record{rec(0, "s"), rec(0, "s"), rec(1, "s")}, "s", 2},
	} {
		w := opened(t, "Open", diskOf(t, nil, framesOf(c.l...)), 0)
		if b, l := w.Last(); string(b) != c.b || !alike(l, c.l[c.from:]) {
			t.Errorf("of %q the last snapshot is %q with %q after it", c.l, b, l)
		}
		holds(t, "Open", w, allLasting(c.l, 0))
	}
}

// Records that are not durable count as well.
func TestLastOfPendingRecords(t *testing.T) {
	w := logOf(t, recs(1, "a"), 1)
	answers(t, "Snapshot", w.Snapshot([]byte("s")), api.OK)
	answers(t, "Append", w.Append(2, []byte("b")), api.OK)
	answers(t, "Sync", w.Sync(), api.OK)
	answers(t, "Append", w.Append(3, []byte("c"), nil), api.OK)
	b, l := w.Last()
	if want := []api.Record{rec(2, "b"), rec(3, "c"), rec(3, "")}; string(b) != "s" || !alike(l, want) {
		t.Errorf("the last snapshot is %q with %q after it", b, l)
	}
}

// The bytes on the disk, written out.
func TestDisk(t *testing.T) {
	w := wal.New()
	answers(t, "Append", w.Append(2, []byte("a")), api.OK)
	first := []byte{0xa5, 2, 0, 0, 0, 1, 'a', 0xfd, 0xb5, 0xf8, 0xed}
	holdsDisk(t, "Append", w.Disk(), nil, first, 0)
	answers(t, "Sync", w.Sync(), api.OK)
	holdsDisk(t, "Sync", w.Disk(), first, nil, 1)
	answers(t, "Append", w.Append(7, nil), api.OK)
	second := []byte{0xa5, 7, 0, 0, 0, 0, 0xb1, 0x98, 0x01, 0x0b}
	holdsDisk(t, "Append", w.Disk(), first, second, 1)
	answers(t, "Snapshot", w.Snapshot(nil), api.OK)
	holdsDisk(t, "Snapshot", w.Disk(), []byte{0xa5, 0, 0, 0, 0, 0, 0xff, 0xd4, 0x7c, 0x94}, nil, 1)
}
