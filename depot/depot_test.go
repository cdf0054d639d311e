package depot_test

import (
	"math"
	"testing"

	"icehouse/api"
	"icehouse/depot"
	"icehouse/msgs"
	"icehouse/store"
)

func TestNew(t *testing.T) {
	s := depot.New()
	if s == nil || s == depot.New() {
		t.Fatal("New returns no server, or one twice")
	}
	holds(t, s)
	finds(t, s, unwritten("k"))
	ticks(t, s)
	if d := s.Disk(); !sameDisk(d, store.New().Disk()) {
		t.Errorf("the disk has %x", d.Bytes())
	}
	holds(t, crashed(t, s, 0))
}

// Example 1 of the chapter.
func TestLookAfterFlush(t *testing.T) {
	s, k := depot.New(), put("k", 1, "v")
	handles(t, s, flushOf(7, k))
	finds(t, s, unwritten("k"))
	ticks(t, s, flushedOf(7, k))
	finds(t, s, k)
}

// A Look is answered to whom it is from, by what is durable.
func TestLook(t *testing.T) {
	s := filled(t)
	for _, e := range append(durable(), unwritten("d"), unwritten("\xff\x00"), unwritten(long(api.MaxKey))) {
		for _, from := range []int{api.Chief, api.Depot, 2, api.MaxID} {
			for _, n := range []int{0, 1, api.MaxSeq} {
				m := api.Msg{Kind: api.Look, From: from, To: api.Depot, Epoch: n, Op: api.MaxSeq - n, E: unwritten(e.Key)}
				handles(t, s, m, foundOf(m, e))
			}
		}
	}
	ticks(t, s, told()...)
	for _, e := range atLast() {
		finds(t, s, e)
	}
}

// Of the entry of a Look only the key counts, and a Look changes nothing.
func TestLookOfAnEntry(t *testing.T) {
	s := filled(t)
	remains(t, "Look", s, func() {
		for _, e := range []api.Entry{put("a", 99, "other"), gone("a", 1), put("a", 1, "one"), unwritten("a")} {
			m := lookOf(5, "a")
			m.E = e
			handles(t, s, m, foundOf(m, put("a", 1, "one")))
		}
		m := lookOf(5, "z")
		m.E = put("z", 99, "other")
		handles(t, s, m, foundOf(m, unwritten("z")))
	})
	ticks(t, s, told()...)
}

// Who flushed is told, whoever that is, in the order of the Flushes; nothing else that
// stands in a Flush comes back.
func TestFlush(t *testing.T) {
	s := depot.New()
	var want []api.Msg
	for i, from := range []int{7, api.MaxID, api.Chief, 2, api.Depot, 7, 3} {
		for _, e := range []api.Entry{put("k", i+1, long(i)), gone("j", i+1), put("k", 1, "again")} {
			m := flushOf(from, e)
			m.Epoch, m.Op = []int{0, api.MaxSeq, i}[i%3], []int{api.MaxSeq, 0}[i%2]
			handles(t, s, m)
			want = append(want, flushedOf(from, e))
		}
	}
	finds(t, s, unwritten("k"))
	ticks(t, s, want...)
	holds(t, s, gone("j", 7), put("k", 7, long(6)))
	ticks(t, s)
}

// An entry that has no tag is forgotten; so is one that may not be, whatever sent it.
func TestFlushOfNothing(t *testing.T) {
	s := filled(t)
	remains(t, "Flush", s, func() { flushes(t, s, 3, unwritten("a"), unwritten("z")) })
	ticks(t, s, told()...)
	holds(t, s, atLast()...)
}

// Many Flushes are made durable at once.
func TestTickSyncsOnce(t *testing.T) {
	s := filled(t)
	if n := s.Disk().Syncs(); n != 1 {
		t.Errorf("%d Syncs", n)
	}
	ticks(t, s, told()...)
	ticks(t, s)
	d := s.Disk()
	if d.Syncs() != 2 || len(d.Tail()) != 0 {
		t.Errorf("%d Syncs, a tail of %d bytes", d.Syncs(), len(d.Tail()))
	}
	holds(t, s, atLast()...)
}

// spoilt: ways to make a message one that may not be, or one for another.
func spoilt() map[string]func(m *api.Msg) {
	return map[string]func(m *api.Msg){
		"to the chief":         func(m *api.Msg) { m.To = api.Chief },
		"to a node":            func(m *api.Msg) { m.To = 2 },
		"to a node that asks":  func(m *api.Msg) { m.To = m.From },
		"to the last node":     func(m *api.Msg) { m.To = api.MaxID },
		"to none":              func(m *api.Msg) { m.To = -1 },
		"to more than all":     func(m *api.Msg) { m.To = 1 << 32 },
		"from none":            func(m *api.Msg) { m.From = -1 },
		"from more than all":   func(m *api.Msg) { m.From = api.MaxID + 1 },
		"a negative epoch":     func(m *api.Msg) { m.Epoch = -1 },
		"too great an epoch":   func(m *api.Msg) { m.Epoch = api.MaxSeq + 1 },
		"a negative Op":        func(m *api.Msg) { m.Op = -1 },
		"too great an Op":      func(m *api.Msg) { m.Op = api.MaxSeq + 1 },
		"an N":                 func(m *api.Msg) { m.N = 1 },
		"a Flag":               func(m *api.Msg) { m.Flag = true },
		"entries":              func(m *api.Msg) { m.L = []api.Entry{put("a", 9, "x")} },
		"a ring":               func(m *api.Msg) { m.R = api.Ring{Nodes: []int{2}, Each: 1, Keep: 1} },
		"no key":               func(m *api.Msg) { m.E.Key = "" },
		"too long a key":       func(m *api.Msg) { m.E.Key = long(api.MaxKey + 1) },
		"too long a value":     func(m *api.Msg) { m.E.Val.B = []byte(long(api.MaxVal + 1)) },
		"bytes without Has":    func(m *api.Msg) { m.E.Val = api.Val{B: []byte("x")} },
		"a value without tag":  func(m *api.Msg) { m.E.Tag = api.Tag{} },
		"a negative Seq":       func(m *api.Msg) { m.E.Tag.Seq = -1 },
		"too great a Seq":      func(m *api.Msg) { m.E.Tag.Seq = api.MaxSeq + 1 },
		"too great a Who":      func(m *api.Msg) { m.E.Tag.Who = api.MaxID + 1 },
		"a negative Op of tag": func(m *api.Msg) { m.E.Tag.Op = -1 },
	}
}

func TestMessagesThatMayNotBe(t *testing.T) {
	s := filled(t)
	for name, spoil := range spoilt() {
		for _, kind := range []int{api.Look, api.Flush} {
			m := flushOf(9, put("a", 9, "nine"))
			m.Kind = kind
			spoil(&m)
			remains(t, name, s, func() { sends(t, name, s.Handle(m)) })
		}
	}
	ticks(t, s, told()...)
	holds(t, s, atLast()...)
}

// ofAllKinds: a message to the depot of each kind there is, which may be.
func ofAllKinds(t *testing.T) []api.Msg {
	t.Helper()
	var out []api.Msg
	for kind := api.Ask; kind <= api.Beat; kind++ {
		m := api.Msg{Kind: kind, From: 7, To: api.Depot}
		if _, _, e, l, r := msgs.Has(kind); e {
			m.E = put("a", 9, "nine")
		} else if l {
			m.L = []api.Entry{put("a", 9, "nine")}
		} else if r {
			m.R = api.Ring{Nodes: []int{2}, Each: 1, Keep: 1}
		}
		if msgs.Check(m) != api.OK {
			t.Fatalf("%v may not be", m)
		}
		out = append(out, m)
	}
	return out
}

// Any other kind is left alone, from whomever.
func TestOtherKinds(t *testing.T) {
	s := filled(t)
	l := ofAllKinds(t)
	for _, kind := range []int{0, -1, 18, -10, 1<<32 + api.Flush, math.MinInt, math.MaxInt} {
		l = append(l, api.Msg{Kind: kind, From: 7, To: api.Depot, E: put("a", 9, "nine")})
	}
	for _, m := range l {
		if m.Kind == api.Look || m.Kind == api.Flush {
			continue
		}
		for _, from := range []int{api.Chief, api.Depot, 7} {
			m.From = from
			remains(t, "Handle", s, func() { handles(t, s, m) })
		}
	}
	ticks(t, s, told()...)
	holds(t, s, atLast()...)
}

// Without a server there is nothing.
func TestNil(t *testing.T) {
	var s *depot.Server
	for _, m := range append(ofAllKinds(t), api.Msg{}, flushOf(7, put("k", 1, "v")), lookOf(7, "k")) {
		handles(t, s, m)
	}
	ticks(t, s)
	for _, kept := range []int{0, 1, -1, math.MinInt, math.MaxInt} {
		c, e := s.Crash(kept)
		answers(t, "Crash", e, api.ErrNil)
		if c != nil {
			t.Errorf("Crash(%d) of nil returns a server", kept)
		}
	}
	for _, key := range []string{"k", ""} {
		if e := s.Get(key); !sameEntry(e, api.Entry{}) {
			t.Errorf("Get of nil: %v", e)
		}
	}
	if l := s.All(); len(l) != 0 {
		t.Errorf("All of nil: %v", l)
	}
	if s.Disk() != nil || s.Copy() != nil {
		t.Error("nil has a disk, or a copy")
	}
	answers(t, "Compact", s.Compact(), api.ErrNil)
}

// A server that New has not made has no entries either.
func TestZero(t *testing.T) {
	var s depot.Server
	holds(t, &s)
	ticks(t, &s)
	flushes(t, s.Copy(), 7, put("k", 1, "v"))
	flushes(t, &s, 7, put("k", 1, "v"))
	holds(t, crashed(t, &s, 0))
	holds(t, crashed(t, &s, 999), put("k", 1, "v"))
	ticks(t, s.Copy(), flushedOf(7, put("k", 1, "v")))
	answers(t, "Compact", s.Compact(), api.OK)
	holds(t, &s, put("k", 1, "v"))
}

// Get, as that of the store, takes any text.
func TestGet(t *testing.T) {
	s := filled(t)
	for _, e := range append(durable(), unwritten("d"), unwritten(""), unwritten("\x00"), unwritten(long(9999))) {
		if got := s.Get(e.Key); !sameEntry(got, e) {
			t.Errorf("Get(%.20q): %v", e.Key, got)
		}
	}
}

func TestCompact(t *testing.T) {
	s := filled(t)
	answers(t, "Compact", s.Compact(), api.OK)
	holds(t, s, atLast()...)
	d := s.Disk()
	if len(d.Tail()) != 0 || d.Syncs() != 1 {
		t.Errorf("a tail of %d bytes, %d Syncs", len(d.Tail()), d.Syncs())
	}
	holds(t, crashed(t, s, 0), atLast()...)
	ticks(t, s, told()...)
	ticks(t, s)
	answers(t, "Compact", s.Compact(), api.OK)
	if got := s.Disk().Bytes(); string(got) != string(d.Bytes()) {
		t.Errorf("the disk has %x, not %x", got, d.Bytes())
	}
}

// What is too long for a snapshot stays as it is.
func TestCompactOfTooMuch(t *testing.T) {
	s := depot.New()
	flushes(t, s, 7, put("a", 1, long(api.MaxVal)))
	ticks(t, s, flushedOf(7, put("a", 1, "")))
	flushes(t, s, 8, put("b", 1, long(api.MaxVal)))
	remains(t, "Compact", s, func() { answers(t, "Compact", s.Compact(), api.ErrLong) })
	ticks(t, s, flushedOf(8, put("b", 1, "")))
	holds(t, s, put("a", 1, long(api.MaxVal)), put("b", 1, long(api.MaxVal)))
}

// Disk is a copy of what the store has written: the records of the first tick last.
func TestDisk(t *testing.T) {
	s, x := filled(t), store.New()
	for _, e := range []api.Entry{put("b", 2, "two"), gone("c", 1), put("a", 1, "one")} {
		x.Put(e, 1)
	}
	x.Tick()
	for _, e := range []api.Entry{put("a", 2, "new"), gone("a", 3), put("d", 1, "four")} {
		x.Put(e, 1)
	}
	d := s.Disk()
	if !sameDisk(d, x.Disk()) {
		t.Errorf("the disk has %x and %x", d.Lasting(), d.Tail())
	}
	answers(t, "Replace", d.Replace(nil), api.OK)
	holds(t, s, durable()...)
	if d == s.Disk() || !sameDisk(s.Disk(), x.Disk()) {
		t.Error("the disk is not a copy")
	}
}
