package wal_test

import (
	"bytes"
	"slices"
	"testing"

	"icehouse/api"
	"icehouse/disk"
	"icehouse/wal"
)

// spoil overwrites a slice up to its capacity.
func spoil(b []byte) {
	b = b[:cap(b)]
	for i := range b {
		b[i] = 0xee
	}
}

// spoilAll overwrites records, their bytes, and what lies behind both.
func spoilAll(l []api.Record) {
	for _, r := range l {
		spoil(r.B)
	}
	l = l[:cap(l)]
	for i := range l {
		l[i] = rec(0xee, "spoilt")
	}
}

// logs: some that were written, opened or found after a crash, with a snapshot and
// without one.
func logs(t *testing.T) map[string]*wal.Log {
	l := []api.Record{rec(0, "snap"), rec(1, "abc"), rec(2, ""), rec(3, "de")}
	w := wal.New()
	answers(t, "Snapshot", w.Snapshot([]byte("snap")), api.OK)
	answers(t, "Append", w.Append(1, []byte("abc")), api.OK)
	answers(t, "Sync", w.Sync(), api.OK)
	answers(t, "Append", w.Append(2, nil), api.OK)
	answers(t, "Append", w.Append(3, []byte("de")), api.OK)
	return map[string]*wal.Log{
		"a written log":                    w,
		"an opened log":                    opened(t, "Open", diskOf(t, framesOf(l...), []byte{0xa5}), 1),
		"a crashed log":                    crashed(t, "a log", w, 99),
		"a log without a snapshot":         logOf(t, l[1:], 1),
		"an opened log without a snapshot": opened(t, "Open", diskOf(t, nil, framesOf(l[1:]...)), 0),
	}
}

// onPaper: what a log tells of itself, in memory of its own.
func onPaper(w *wal.Log) paper {
	var l []api.Record
	for _, r := range w.Records() {
		l = append(l, rec(r.Kind, string(r.B)))
	}
	return paper{l, w.Lasting(), w.Disk().Syncs()}
}

// Results are new memory: what becomes of them is seen neither in the log nor in
// other results.
func TestResultsAreNewMemory(t *testing.T) {
	for name, w := range logs(t) {
		p := onPaper(w)
		for i, do := range []func(){
			func() { spoilAll(w.Records()) },
			func() { _, l := w.Last(); spoilAll(l) },
			func() { b, _ := w.Last(); spoil(b) },
			func() { spoil(w.Disk().Bytes()); w.Disk().Replace([]byte("other")) },
			func() { w.Disk().Append([]byte("x")); w.Disk().Sync() },
			func() { c, _ := w.Crash(0); c.Snapshot(nil) },
		} {
			records := w.Records()
			b, l := w.Last()
			d := w.Disk()
			do()
			holds(t, name, w, p)
			wantB, wantL := p.last()
			if !alike(records, p.records) || !bytes.Equal(b, wantB) || !alike(l, wantL) {
				t.Errorf("%s: what becomes of result %d is seen in others", name, i)
			}
			holdsDisk(t, name, d, framesOf(p.records[:p.lasting]...), framesOf(p.records[p.lasting:]...), p.syncs)
		}
	}
}

// The bytes of one result share nothing either, nor do two of them.
func TestResultsShareNothing(t *testing.T) {
	for name, w := range logs(t) {
		p := onPaper(w)
		records := w.Records()
		b, l := w.Last()
		wantB, wantL := p.last()
		all := slices.Concat(records, l, []api.Record{{B: b}})
		want := slices.Concat(p.records, wantL, []api.Record{{B: wantB}})
		for i, r := range all {
			spoil(r.B)
			if !alike(all[i+1:], want[i+1:]) {
				t.Errorf("%s: the bytes of result %d are seen in another", name, i)
			}
		}
		if spoilAll(records); l[0].Kind == 0xee {
			t.Errorf("%s: the records of one call are seen in those of another", name)
		}
		spoilAll(l)
		holds(t, name, w, p)
	}
}

// What the log does later is not seen in what it returned before.
func TestResultsStay(t *testing.T) {
	for name, w := range logs(t) {
		p := onPaper(w)
		records := w.Records()
		b, l := w.Last()
		d := w.Disk()
		w.Append(4, []byte("x"), []byte("yyyyyyyyyyyy"))
		w.Sync()
		w.Snapshot([]byte("!"))
		w.Append(5, []byte("0123456789"), nil)
		wantB, wantL := p.last()
		if !alike(records, p.records) || !bytes.Equal(b, wantB) || !alike(l, wantL) {
			t.Errorf("%s: what was returned is now %q, %q and %q", name, records, b, l)
		}
		holdsDisk(t, name, d, framesOf(p.records[:p.lasting]...), framesOf(p.records[p.lasting:]...), p.syncs)
	}
}

// An argument is neither changed nor kept, nor is what lies behind it, nor the list
// of arguments.
func TestArgumentsAreLeftAlone(t *testing.T) {
	whole := []byte("abcbehind")
	w := wal.New()
	answers(t, "Append", w.Append(1, whole[:3], whole[3:5], whole[:1]), api.OK)
	want := recs(1, "abc", "be", "a")
	if string(whole) != "abcbehind" {
		t.Errorf("Append: the argument is now %q", whole)
	}
	spoil(whole)
	holds(t, "Append", w, paper{want, 0, 0})

	whole = []byte("abcbehind")
	answers(t, "Snapshot", w.Snapshot(whole[:3]), api.OK)
	answers(t, "Append", w.Append(1, []byte("d")), api.OK)
	if string(whole) != "abcbehind" {
		t.Errorf("Snapshot: the argument is now %q", whole)
	}
	spoil(whole)
	holds(t, "Snapshot", w, paper{append(recs(0, "abc"), rec(1, "d")), 1, 0})

	l := bytesOf("a", "bc", "d")
	list := slices.Clone(l)
	w = wal.New()
	answers(t, "Append", w.Append(1, list[:2]...), api.OK)
	for i, b := range list {
		if &b[0] != &l[i][0] || len(b) != len(l[i]) {
			t.Errorf("argument %d is another one", i)
		}
	}
	list[0], list[1] = []byte("x"), nil
	holds(t, "another list", w, paper{recs(1, "a", "bc"), 0, 0})
}

// A disk is neither changed by Open nor by what the log does, nor does the log see
// what becomes of the disk; the same disk may be opened again.
func TestDiskIsLeftAlone(t *testing.T) {
	l := []api.Record{rec(0, "s"), rec(1, "a"), rec(2, "bc")}
	b := framesOf(l...)
	for _, do := range []func(w *wal.Log){
		func(w *wal.Log) { w.Append(1, []byte("x")); w.Append(2, nil, []byte("yyyyyyyyyyyyyyyy")) },
		func(w *wal.Log) { w.Append(1, []byte("x")); w.Sync(); w.Append(1, []byte("y")) },
		func(w *wal.Log) { w.Snapshot([]byte("x")); w.Append(1, []byte("y")) },
		func(w *wal.Log) { w.Crash(0) },
	} {
		d := diskOf(t, b[:20], slices.Concat(b[20:], []byte{0xa5, 9, 9}))
		first := opened(t, "Open", d, 3)
		second := opened(t, "Open again", d, 3)
		do(first)
		holdsDisk(t, "what was opened", d, b[:20], slices.Concat(b[20:], []byte{0xa5, 9, 9}), 0)
		holds(t, "another log of it", second, allLasting(l, 0))
		p := onPaper(first)
		d.Append([]byte("more"))
		d.Sync()
		d.Replace([]byte("other"))
		holds(t, "a log whose disk was changed", first, p)
		holds(t, "another log of it", second, allLasting(l, 0))
	}
}

// Whatever happens to one log is not seen in others: that of its crash, those opened
// on its disk, and new ones.
func TestLogsAreIndependent(t *testing.T) {
	for _, do := range []func(w *wal.Log){
		func(w *wal.Log) { w.Append(7, []byte("x")); w.Append(8, []byte("y"), []byte("zzzzzzzzzzzzzzzz")) },
		func(w *wal.Log) { w.Sync(); w.Append(7, []byte("x")); w.Sync() },
		func(w *wal.Log) { w.Snapshot([]byte("x")); w.Append(7, []byte("y")) },
		func(w *wal.Log) { w.Snapshot(nil) },
	} {
		first := logOf(t, many(), 3)
		p := onPaper(first)
		second := crashed(t, "a log", first, 99999)
		third := opened(t, "Open", first.Disk(), 0)
		do(first)
		holds(t, "a crashed log", second, allLasting(many(), p.syncs))
		holds(t, "an opened log", third, allLasting(many(), p.syncs))
		before := onPaper(first)
		do(second)
		holds(t, "what crashed", first, before)
		holds(t, "an opened log", third, allLasting(many(), p.syncs))
		do(third)
		holds(t, "what was opened", first, before)
		do(wal.New())
		holds(t, "a new log", wal.New(), paper{})
	}
}

// What a log returned may be given to it again.
func TestOwnResults(t *testing.T) {
	w := logOf(t, recs(1, "ab", "cd"), 1)
	l := w.Records()
	answers(t, "Append", w.Append(2, l[1].B, l[0].B, w.Disk().Tail()), api.OK)
	want := append(recs(1, "ab", "cd"), rec(2, "cd"), rec(2, "ab"), api.Record{Kind: 2, B: frameOf(1, []byte("cd"))})
	holds(t, "Append of its own records", w, paper{want, 1, 1})
	b := w.Disk().Bytes()
	answers(t, "Snapshot", w.Snapshot(b), api.OK)
	holds(t, "Snapshot of its own bytes", w, allLasting([]api.Record{{B: b}}, 1))
	last, _ := w.Last()
	answers(t, "Snapshot", w.Snapshot(last[:5]), api.OK)
	holds(t, "Snapshot of a part of the last one", w, allLasting([]api.Record{{B: b[:5]}}, 1))
}

// A copy of the disk is a disk of its own, each time.
func TestDiskIsCopied(t *testing.T) {
	w := logOf(t, recs(1, "a", "b"), 1)
	p := onPaper(w)
	if w.Disk() == w.Disk() {
		t.Error("a disk is returned twice")
	}
	for _, do := range []func(d *disk.Disk){
		func(d *disk.Disk) { d.Append([]byte("xyz")); d.Sync(); d.Append([]byte("0123456789012345")) },
		func(d *disk.Disk) { d.Crash(3); d.Append([]byte("xyz")) },
		func(d *disk.Disk) { d.Replace(nil) },
	} {
		other := w.Disk()
		do(w.Disk())
		holds(t, "a log whose disk was copied", w, p)
		holdsDisk(t, "another copy", other, framesOf(recs(1, "a")...), framesOf(recs(1, "b")...), 1)
	}
}
