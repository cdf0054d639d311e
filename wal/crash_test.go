package wal_test

import (
	"math"
	"slices"
	"testing"

	"icehouse/api"
	"icehouse/wal"
)

// crashed reports a fault unless Crash returns another log.
func crashed(t *testing.T, name string, w *wal.Log, kept int) *wal.Log {
	t.Helper()
	c, e := w.Crash(kept)
	if e != api.OK || c == nil || c == w {
		t.Fatalf("%s, Crash(%d): error %d", name, kept, e)
	}
	return c
}

// A frame of one byte has eleven.
func TestCrash(t *testing.T) {
	w := logOf(t, recs(1, "a", "b", "c"), 1)
	for _, c := range []struct {
		kept int
		want []api.Record
	}{
		{0, recs(1, "a")}, {1, recs(1, "a")}, {10, recs(1, "a")},
		{11, recs(1, "a", "b")}, {12, recs(1, "a", "b")}, {21, recs(1, "a", "b")},
		{22, recs(1, "a", "b", "c")}, {23, recs(1, "a", "b", "c")}, {math.MaxInt, recs(1, "a", "b", "c")},
	} {
		holds(t, "Crash", crashed(t, "a log", w, c.kept), allLasting(c.want, 1))
		holds(t, "what crashed", w, paper{recs(1, "a", "b", "c"), 1, 1})
	}
}

func TestCrashOfLessThanNothing(t *testing.T) {
	for _, w := range []*wal.Log{wal.New(), logOf(t, recs(1, "a", "b"), 1), logOf(t, recs(1, "a"), 1)} {
		want := paper{w.Records(), w.Lasting(), w.Disk().Syncs()}
		for _, kept := range []int{-1, -2, -11, math.MinInt32, math.MinInt} {
			if c, e := w.Crash(kept); e != api.ErrArg || c != nil {
				t.Errorf("Crash(%d): error %d", kept, e)
			}
			holds(t, "Crash of less than nothing", w, want)
		}
	}
}

// After a crash all durable records are present, followed by those of the others that
// were completely written, in order; all of them are durable.
func TestCrashKeepsCompleteRecords(t *testing.T) {
	l := many()
	for lasting := range len(l) + 1 {
		w := logOf(t, l, lasting)
		syncs := w.Disk().Syncs()
		rest := l[lasting:]
		for kept := range len(framesOf(rest...)) + 2 {
			count, _ := complete(rest, kept)
			c := crashed(t, "a log", w, kept)
			holds(t, "Crash", c, allLasting(l[:lasting+count], syncs))
		}
		holds(t, "what crashed", w, paper{l, lasting, syncs})
	}
}

// Records of one Append may be parted by a crash.
func TestCrashWithinAppend(t *testing.T) {
	w := wal.New()
	answers(t, "Append", w.Append(1, bytesOf("a", "", "bc")...), api.OK)
	for kept := range 11 + 10 + 12 + 1 {
		count, _ := complete(recs(1, "a", "", "bc"), kept)
		holds(t, "Crash", crashed(t, "a log", w, kept), allLasting(recs(1, "a", "", "bc")[:count], 0))
	}
}

// Snapshot is atomic and durable at once: a crash finds all of it, and nothing of what
// was there before.
func TestCrashAfterSnapshot(t *testing.T) {
	for lasting := range 4 {
		w := logOf(t, recs(1, "a", "b", "c"), lasting)
		syncs := w.Disk().Syncs()
		answers(t, "Snapshot", w.Snapshot([]byte("all")), api.OK)
		for _, kept := range []int{0, 1, 13, 99} {
			holds(t, "Snapshot and Crash", crashed(t, "a snapshot", w, kept), allLasting(recs(0, "all"), syncs))
		}
		answers(t, "Append", w.Append(2, []byte("d")), api.OK)
		holds(t, "Crash behind it", crashed(t, "a snapshot", w, 10), allLasting(recs(0, "all"), syncs))
		want := append(recs(0, "all"), rec(2, "d"))
		holds(t, "Crash behind it", crashed(t, "a snapshot", w, 11), allLasting(want, syncs))
	}
}

// What was cut off does not come back: the log goes on where its records end.
func TestLogGoesOnAfterCrash(t *testing.T) {
	w := wal.New()
	var want []api.Record
	for i := range 200 {
		b := many()[i%len(many())].B
		answers(t, "Append", w.Append(1, b, nil, []byte("lost")), api.OK)
		w = crashed(t, "a log", w, len(frameOf(1, b))+10+i%14)
		want = append(want, api.Record{Kind: 1, B: b}, rec(1, ""))
		holds(t, "Append and Crash", w, allLasting(want, 0))
	}
}

// A crash is no Sync, and two of them in a row are as one.
func TestCrashTwice(t *testing.T) {
	w := logOf(t, slices.Concat(recs(1, "a"), recs(2, "b", "c")), 1)
	for kept := range 24 {
		first := crashed(t, "a log", w, kept)
		want := allLasting(first.Records(), 1)
		for _, again := range []int{0, 1, 99} {
			holds(t, "Crash twice", crashed(t, "a crashed log", first, again), want)
		}
	}
}
