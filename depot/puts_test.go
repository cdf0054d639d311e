package depot_test

import (
	"math"
	"testing"

	"icehouse/api"
	"icehouse/depot"
)

// puts gives entries to a server's store in all ways there are, in turn.
func puts(t *testing.T, s *depot.Server, who int, l ...api.Entry) {
	t.Helper()
	for i, e := range l {
		switch i % 3 {
		case 0:
			answers(t, "Put", s.Put(e, who), api.OK)
		case 1:
			answers(t, "Put of the store", s.Store.Put(e, who), api.OK)
		default:
			handles(t, s, flushOf(who, e))
		}
	}
}

// twin holds a copy against the server: its disk, how many Acks are pending, and, of a copy
// of either, what the next ticks send and what is durable then.
func twin(t *testing.T, name string, c, s *depot.Server) {
	t.Helper()
	if !sameDisk(c.Disk(), s.Disk()) {
		t.Errorf("%s: the disk has %x and %x, not %x and %x", name, c.Disk().Lasting(), c.Disk().Tail(), s.Disk().Lasting(), s.Disk().Tail())
	}
	if c.Waiting() != s.Waiting() || !alike(c.All(), s.All()) {
		t.Errorf("%s: %d Acks are pending, not %d; the durable entries are %s, not %s", name, c.Waiting(), s.Waiting(), text(c.All()), text(s.All()))
	}
	a, b := c.Copy(), s.Copy()
	for range 2 {
		sends(t, name, a.Tick(), b.Tick()...)
		if !sameDisk(a.Disk(), b.Disk()) || !alike(a.All(), b.All()) {
			t.Errorf("%s: after a tick the copy is another one", name)
		}
	}
}

// What was put past Handle is pending, too, and a copy has it, and the disk's tail.
func TestCopyOfWhatWasPut(t *testing.T) {
	s, k := depot.New(), put("k", 2, "v")
	answers(t, "Put", s.Put(k, 7), api.OK)
	c := s.Copy()
	twin(t, "Put", c, s)
	if len(c.Disk().Tail()) == 0 || len(c.Disk().Lasting()) != 0 || c.Waiting() != 1 {
		t.Errorf("the copy's disk has a tail of %d bytes; %d Acks are pending", len(c.Disk().Tail()), c.Waiting())
	}
	if got := c.Newest("k"); !sameEntry(got, k) {
		t.Errorf("the newest is %v", got)
	}
	ticks(t, c, flushedOf(7, k))
	ticks(t, c)
	holds(t, c, k)
	holds(t, s)
	ticks(t, s, flushedOf(7, k))
	ticks(t, s.Copy())
}

// However entries come into the store, the Acks keep their order, and the tail its bytes.
func TestCopyOfAllWays(t *testing.T) {
	s := depot.New()
	versions := []api.Entry{
		put("a", 2, "two"), put("b", 1, "one"), gone("a", 3), put("a", 1, "old"), put("a", 3, "late"), gone("c", 1), put("b", 2, ""),
		put("b", 2, "again"), put("d", 1, "four"), put("a", 4, "four"), gone("a", 5),
	}
	var want []api.Msg
	for i, e := range versions {
		puts(t, s, i+2, versions[i:i+1]...)
		want = append(want, flushedOf(i+2, e))
		twin(t, "Put", s.Copy(), s)
		twin(t, "a copy's copy", s.Copy().Copy(), s)
	}
	puts(t, s, 90, versions...)
	for _, e := range versions {
		want = append(want, flushedOf(90, e))
	}
	c := s.Copy()
	answers(t, "Compact", s.Compact(), api.OK)
	d := s.Copy()
	twin(t, "Compact", d, s)
	puts(t, s, 91, put("a", 5, "late"), put("a", 6, "six"), put("e", 1, "five"))
	twin(t, "Put after Compact", s.Copy(), s)
	ticks(t, c, want...)
	ticks(t, d, want...)
	ticks(t, s, append(want, flushedOf(91, put("a", 5, "")), flushedOf(91, put("a", 6, "")), flushedOf(91, put("e", 1, "")))...)
}

// After a tick nothing is pending, also if the store itself was told.
func TestCopyAfterTheStoresTick(t *testing.T) {
	s := depot.New()
	puts(t, s, 7, put("a", 1, "one"), put("b", 1, "two"), gone("c", 1))
	acks, e := s.Store.Tick()
	answers(t, "Tick of the store", e, api.OK)
	if len(acks) != 3 || acks[0] != (api.Ack{Who: 7, Key: "a", Tag: put("a", 1, "").Tag}) || acks[1].Key != "b" || acks[2].Key != "c" {
		t.Errorf("%v", acks)
	}
	c := s.Copy()
	twin(t, "Tick of the store", c, s)
	ticks(t, c)
	holds(t, c, put("a", 1, "one"), put("b", 1, "two"), gone("c", 1))
	puts(t, s, 8, put("a", 1, "one"), put("a", 2, "new"))
	twin(t, "Put after it", s.Copy(), s)
	ticks(t, s.Copy(), flushedOf(8, put("a", 1, "")), flushedOf(8, put("a", 2, "")))
}

// What is refused is neither in the server nor in a copy.
func TestPutsThatAreRefused(t *testing.T) {
	s := filled(t)
	for _, c := range []struct {
		e   api.Entry
		who int
	}{
		{put("k", 9, "v"), -1}, {put("k", 9, "v"), api.MaxID + 1}, {put("k", 9, "v"), math.MinInt}, {put("a", 1, "one"), -1},
		{unwritten("k"), 7}, {put("k", 0, "v"), 7}, {put("", 9, "v"), 7}, {put(long(api.MaxKey+1), 9, "v"), 7},
		{put("k", 9, long(api.MaxVal+1)), 7}, {put("k", -1, "v"), 7}, {put("k", api.MaxSeq+1, "v"), 7},
	} {
		remains(t, "Put", s, func() {
			answers(t, "Put", s.Put(c.e, c.who), api.ErrArg)
			answers(t, "Put of the store", s.Store.Put(c.e, c.who), api.ErrArg)
		})
		twin(t, "Put", s.Copy(), s)
	}
	ticks(t, s.Copy(), told()...)
	ticks(t, s, told()...)
}

// So is what the disk has no room for, also when there is room again.
func TestPutsOnAFullDisk(t *testing.T) {
	n := most(t)
	s := full(t, n/2)
	answers(t, "Put", s.Put(longest(n+1), 5), api.ErrLong)
	answers(t, "Put", s.Put(longest(1), 6), api.OK)
	answers(t, "Put of the store", s.Store.Put(longest(n+2), 5), api.ErrLong)
	want := append(pending(n/2+1, n), flushedOf(6, longest(1)))
	twin(t, "Put", s.Copy(), s)
	answers(t, "Compact", s.Compact(), api.OK)
	twin(t, "Compact", s.Copy(), s)
	ticks(t, s.Copy(), want...)
	answers(t, "Put", s.Put(longest(n+1), 5), api.OK)
	twin(t, "Put after Compact", s.Copy(), s)
	ticks(t, s.Copy(), append(want, flushedOf(5, longest(n+1)))...)
}

// An entry that was put is neither changed nor kept.
func TestPutsAreNotRetained(t *testing.T) {
	for i := range 3 {
		whole := []byte("valuebehind")
		e := put("k", 1, "")
		e.Val.B = whole[:5]
		s := depot.New()
		[]func(){
			func() { s.Put(e, 7) },
			func() { s.Store.Put(e, 7) },
			func() { s.Handle(flushOf(7, e)) },
		}[i]()
		if string(whole) != "valuebehind" || !sameEntry(e, put("k", 1, "value")) {
			t.Errorf("%d: the entry is now %v", i, e)
		}
		spoil(whole)
		for _, x := range []*depot.Server{s.Copy(), s.Copy().Copy(), s} {
			ticks(t, x, flushedOf(7, e))
			holds(t, x, put("k", 1, "value"))
		}
	}
}
