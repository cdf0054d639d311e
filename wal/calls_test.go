package wal_test

import (
	"slices"
	"testing"

	"icehouse/api"
	"icehouse/wal"
)

// act is a call, what it does to the log, and what it ought to do. It returns the log
// that goes on.
type act struct {
	name string
	do   func(w *wal.Log) (*wal.Log, api.Errno)
	want func(p paper) (paper, api.Errno)
}

func appendOf(name string, kind byte, l ...string) act {
	return act{
		"Append" + name,
		func(w *wal.Log) (*wal.Log, api.Errno) { return w, w.Append(kind, bytesOf(l...)...) },
		func(p paper) (paper, api.Errno) {
			p.records = slices.Concat(p.records, recs(kind, l...))
			return p, api.OK
		},
	}
}

func sync() act {
	return act{
		"Sync",
		func(w *wal.Log) (*wal.Log, api.Errno) { return w, w.Sync() },
		func(p paper) (paper, api.Errno) {
			if p.lasting < len(p.records) {
				p.syncs++
			}
			return allLasting(p.records, p.syncs), api.OK
		},
	}
}

func snapshotOf(s string) act {
	return act{
		"Snapshot(" + s + ")",
		func(w *wal.Log) (*wal.Log, api.Errno) { return w, w.Snapshot([]byte(s)) },
		func(p paper) (paper, api.Errno) { return allLasting(recs(0, s), p.syncs), api.OK },
	}
}

// crashOf goes on with the log that is found after the crash.
func crashOf(name string, kept int) act {
	return act{
		"Crash" + name,
		func(w *wal.Log) (*wal.Log, api.Errno) { return w.Crash(kept) },
		func(p paper) (paper, api.Errno) {
			n, _ := complete(p.records[p.lasting:], kept)
			return allLasting(p.records[:p.lasting+n], p.syncs), api.OK
		},
	}
}

// missed goes on with the log that was before the crash.
func missed() act {
	return act{
		"Crash that is left",
		func(w *wal.Log) (*wal.Log, api.Errno) {
			c, e := w.Crash(11)
			c.Append(9, []byte("!"))
			c.Sync()
			c.Snapshot([]byte("?"))
			return w, e
		},
		func(p paper) (paper, api.Errno) { return p, api.OK },
	}
}

// reopened goes on with a log on the disk and a torn frame, while the one before is
// made another one.
func reopened() act {
	return act{
		"Open",
		func(w *wal.Log) (*wal.Log, api.Errno) {
			d := w.Disk()
			d.Append([]byte{0xa5, 1, 0, 0})
			o, n, e := wal.Open(d)
			if n != 4 {
				e = api.ErrForm
			}
			w.Append(9, []byte("!"))
			w.Sync()
			w.Snapshot([]byte("?"))
			return o, e
		},
		func(p paper) (paper, api.Errno) { return allLasting(p.records, p.syncs), api.OK },
	}
}

// failing: all calls that fail, one after the other.
func failing() act {
	long := make([]byte, api.MaxRecord+1)
	return act{
		"calls that fail",
		func(w *wal.Log) (*wal.Log, api.Errno) {
			c, e := w.Crash(-1)
			if c != nil || e != api.ErrArg || w.Append(0, []byte("x")) != api.ErrArg || w.Append(1, []byte("x"), long) != api.ErrLong {
				return w, api.OK
			}
			if w.Append(1, slices.Repeat([][]byte{long[1:]}, 64)...) != api.ErrLong {
				return w, api.OK
			}
			return w, w.Snapshot(long)
		},
		func(p paper) (paper, api.Errno) { return p, api.ErrLong },
	}
}

func acts() []act {
	return []act{
		appendOf("()", 1), appendOf("(a)", 1, "a"), appendOf("(nothing)", 2, ""), appendOf("(more)", 255, "bcd", "", "e"),
		sync(), snapshotOf(""), snapshotOf("all"), missed(), reopened(),
		crashOf("(0)", 0), crashOf("(11)", 11), crashOf("(25)", 25), crashOf("(999)", 999),
	}
}

// start is a way to come by a log, with what it then has.
type start struct {
	name string
	from func(t *testing.T) *wal.Log
	has  paper
}

func starts() []start {
	l := []api.Record{rec(1, "p"), rec(0, "q"), rec(2, "r")}
	return []start{
		{"New", func(t *testing.T) *wal.Log { return wal.New() }, paper{}},
		{"Open", func(t *testing.T) *wal.Log { return opened(t, "Open", diskOf(t, framesOf(l...), nil), 0) }, allLasting(l, 0)},
	}
}

// rows calls do with each row of up to so many acts.
func rows(l []act, most int, do func(row []act)) {
	var longer func(row []act)
	longer = func(row []act) {
		do(row)
		if len(row) == most {
			return
		}
		for _, a := range l {
			longer(append(row[:len(row):len(row)], a))
		}
	}
	longer(nil)
}

// play holds a log against the paper after a row of acts.
func play(t *testing.T, s start, row []act) {
	t.Helper()
	w, p, name := s.from(t), s.has, s.name
	for _, a := range row {
		next, e := a.do(w)
		after, want := a.want(p)
		w, p, name = next, after, name+", "+a.name
		answers(t, name, e, want)
	}
	holds(t, name, w, p)
}

func TestRowsOfCalls(t *testing.T) {
	for _, s := range starts() {
		rows(acts(), 4, func(row []act) { play(t, s, row) })
	}
}

// With an error nothing changes: what comes after it is as if it had not been.
func TestRowsOfCallsThatFail(t *testing.T) {
	l := []act{failing(), appendOf("(a, b)", 1, "a", "b"), sync(), snapshotOf("all"), crashOf("(11)", 11), reopened()}
	for _, s := range starts() {
		rows(l, 3, func(row []act) { play(t, s, row) })
	}
}

// Whatever is done but Snapshot, the durable records stay where they are.
func TestDurableRecordsStay(t *testing.T) {
	l := slices.DeleteFunc(acts(), func(a act) bool { return a.name == "Snapshot()" || a.name == "Snapshot(all)" })
	rows(l, 3, func(row []act) {
		w := logOf(t, recs(1, "x", "yz", "x"), 2)
		for _, a := range row {
			before, lasting := w.Records(), w.Lasting()
			w, _ = a.do(w)
			if after := w.Records(); w.Lasting() < lasting || !alike(after[:lasting], before[:lasting]) {
				t.Errorf("%s: of %q, %d of them durable, %q is there then", a.name, before, lasting, after)
			}
		}
	})
}
