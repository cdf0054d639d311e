package depot_test

import (
	"testing"

	"icehouse/api"
	"icehouse/depot"
)

// longest is the version i of an entry that takes as much of the disk as one may.
func longest(i int) api.Entry {
	return put(long(api.MaxKey), i, long(api.MaxVal))
}

// most is how many of these a disk has room for.
func most(t *testing.T) int {
	t.Helper()
	s := depot.New()
	flushes(t, s, 7, longest(1))
	return api.MaxDisk / len(s.Disk().Tail())
}

// full is a server whose disk has no room for another one of these; the versions up to
// lasting are durable, the others are to be told to node 8.
func full(t *testing.T, lasting int) *depot.Server {
	t.Helper()
	s := depot.New()
	for i := range most(t) {
		if i == lasting {
			s.Tick()
		}
		flushes(t, s, 8, longest(i+1))
	}
	return s
}

// pending: what is told of the versions from first to last.
func pending(first, last int) []api.Msg {
	var out []api.Msg
	for i := first; i <= last; i++ {
		out = append(out, flushedOf(8, longest(i)))
	}
	return out
}

// What the disk has no room for is not acknowledged; what is older is, as it needs none.
func TestFullDisk(t *testing.T) {
	n := most(t)
	s := full(t, n/2)
	remains(t, "Flush", s, func() {
		flushes(t, s, 5, longest(n+1), put("z", 1, long(api.MaxVal)), put(long(api.MaxKey), n+2, long(api.MaxVal)))
	})
	flushes(t, s, 5, longest(1))
	holds(t, s, longest(n/2))
	holds(t, crashed(t, s, api.MaxDisk), longest(n))
	ticks(t, s, append(pending(n/2+1, n), flushedOf(5, longest(1)))...)
	holds(t, s, longest(n))
	flushes(t, s, 5, longest(n+1))
	ticks(t, s)
	holds(t, s, longest(n))
}

// A copy has what the server has, and not what was refused: also when there is room again.
func TestCopyOfAFullDisk(t *testing.T) {
	n := most(t)
	s := full(t, n/2)
	flushes(t, s, 5, longest(n+1), put("z", 1, long(api.MaxVal)), longest(1))
	want := append(pending(n/2+1, n), flushedOf(5, longest(1)))
	c := s.Copy()
	answers(t, "Compact", s.Compact(), api.OK)
	d := s.Copy()
	flushes(t, s, 5, longest(n+1))
	e := s.Copy()
	if !sameDisk(e.Disk(), s.Disk()) || sameDisk(c.Disk(), d.Disk()) || sameDisk(d.Disk(), e.Disk()) {
		t.Error("a copy has another disk")
	}
	holds(t, c, longest(n/2))
	flushes(t, c, 5, longest(n+1))
	ticks(t, c, want...)
	holds(t, c, longest(n))
	holds(t, d, longest(n))
	ticks(t, d, want...)
	holds(t, d, longest(n))
	for _, x := range []*depot.Server{s, e} {
		holds(t, x, longest(n))
		ticks(t, x, append(want, flushedOf(5, longest(n+1)))...)
		holds(t, x, longest(n+1))
	}
}

// After a crash the disk has room again, where its tail was.
func TestCrashOfAFullDisk(t *testing.T) {
	n := most(t)
	s := full(t, n-1)
	c := crashed(t, s, 60000)
	holds(t, c, longest(n-1))
	flushes(t, c, 5, longest(n+1), longest(n+2))
	ticks(t, c.Copy(), flushedOf(5, longest(n+1)))
	ticks(t, c, flushedOf(5, longest(n+1)))
	holds(t, c, longest(n+1))
	ticks(t, s, pending(n, n)...)
}

// The greatest numbers.
func TestGreatestNumbers(t *testing.T) {
	s := depot.New()
	e := put(long(api.MaxKey), api.MaxSeq, long(api.MaxVal))
	e.Tag.Who, e.Tag.Op = api.MaxID, api.MaxID
	m := api.Msg{Kind: api.Flush, From: api.MaxID, To: api.Depot, Epoch: api.MaxSeq, Op: api.MaxSeq, E: e}
	handles(t, s, m)
	ticks(t, s.Copy(), flushedOf(api.MaxID, e))
	ticks(t, s, flushedOf(api.MaxID, e))
	m.Kind, m.E = api.Look, unwritten(e.Key)
	handles(t, s, m, foundOf(m, e))
	holds(t, s, e)
}

// Very many Flushes between two ticks, most of them of what is there already.
func TestManyFlushes(t *testing.T) {
	s := depot.New()
	var want []api.Msg
	for i := range 30000 {
		e := put(string(rune('a'+i%20)), i/2000+1, "v")
		handles(t, s, flushOf(i, e))
		want = append(want, flushedOf(i, e))
	}
	c := s.Copy()
	if !sameDisk(c.Disk(), s.Disk()) {
		t.Error("the copy has another disk")
	}
	ticks(t, c, want...)
	ticks(t, s, want...)
	if !alike(c.All(), s.All()) || len(s.All()) != 20 {
		t.Errorf("the copy has %d entries, the server %d", len(c.All()), len(s.All()))
	}
}
