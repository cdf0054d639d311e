package store_test

import (
	"testing"

	"icehouse/api"
	"icehouse/store"
)

// crashed returns the store that is found after a crash.
func crashed(t *testing.T, name string, s *store.Store, kept int) *store.Store {
	t.Helper()
	c, e := s.Crash(kept)
	answers(t, name, e, api.OK)
	return c
}

// A crash after each byte of the tail: the durable entries, and those of the others
// that are complete; nobody is told anything any more.
func TestCrash(t *testing.T) {
	for lasting := range len(many()) + 1 {
		s, p := puts(t, many(), lasting)
		size := len(putFrames(p.fresh...))
		for kept := range size + 2 {
			c := crashed(t, "Crash", s, kept)
			holds(t, "Crash", c, p.crash(kept))
		}
		for _, kept := range []int{api.MaxDisk, api.MaxDisk + 1, 1<<63 - 1} {
			holds(t, "Crash", crashed(t, "Crash", s, kept), p.crash(size))
		}
		holds(t, "what crashed", s, p)
		ticks(t, "what crashed", s, p)
	}
}

func TestCrashOfNegative(t *testing.T) {
	s, p := puts(t, many(), 3)
	for _, kept := range []int{-1, -2, -1 << 63} {
		c, e := s.Crash(kept)
		answers(t, "Crash", e, api.ErrArg)
		if c != nil {
			t.Errorf("Crash(%d) returns a store", kept)
		}
		holds(t, "Crash", s, p)
	}
}

// A snapshot is there after a crash, with all that was newest then.
func TestCrashAfterCompact(t *testing.T) {
	s, p := puts(t, many(), 3)
	answers(t, "Compact", s.Compact(), api.OK)
	p = p.compact()
	for _, e := range []api.Entry{put("b", 8, "x"), put("d", 1, "y")} {
		answers(t, "Put", s.Put(e, 2), api.OK)
		p = p.put(e, 2)
	}
	for kept := range len(putFrames(p.fresh...)) + 2 {
		holds(t, "Compact, Put and Crash", crashed(t, "Crash", s, kept), p.crash(kept))
	}
}

// What was lost may be put again, and crash again.
func TestCrashGoesOn(t *testing.T) {
	s, p := puts(t, many(), 4)
	c := crashed(t, "Crash", s, 30)
	q := p.crash(30)
	for _, e := range many() {
		answers(t, "Put", c.Put(e, 7), api.OK)
		q = q.put(e, 7)
		holds(t, "Crash and Put", c, q)
		holds(t, "Crash, Put and Crash", crashed(t, "Crash", c, 60), q.crash(60))
	}
	q = ticks(t, "Crash and Put", c, q)
	answers(t, "Compact", c.Compact(), api.OK)
	holds(t, "Crash, Put and Compact", c, q.compact())
	holds(t, "what crashed", s, p)
}
