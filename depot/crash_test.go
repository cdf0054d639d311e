package depot_test

import (
	"math"
	"testing"

	"icehouse/api"
	"icehouse/depot"
)

// A crash after each byte of the tail: what is durable, and what was completely written of
// the rest; nobody is told anything any more. What crashed goes on.
func TestCrash(t *testing.T) {
	s := filled(t)
	var ends []int // where the tail ends, as far as it is written
	for i := range 3 {
		c := depot.New()
		flushes(t, c, 8, []api.Entry{put("a", 2, "new"), gone("a", 3), put("d", 1, "four")}[:i+1]...)
		ends = append(ends, len(c.Disk().Tail()))
	}
	for kept := range ends[2] + 3 {
		want := durable()
		if kept >= ends[0] {
			want[0] = put("a", 2, "new")
		}
		if kept >= ends[1] {
			want[0] = gone("a", 3)
		}
		if kept >= ends[2] {
			want = atLast()
		}
		remains(t, "Crash", s, func() {
			c := crashed(t, s, kept)
			holds(t, c, want...)
			if c == s || len(c.Disk().Tail()) != 0 {
				t.Errorf("Crash(%d): the disk has a tail", kept)
			}
			ticks(t, c)
			holds(t, c, want...)
		})
	}
	holds(t, crashed(t, s, math.MaxInt), atLast()...)
	ticks(t, s, told()...)
	holds(t, s, atLast()...)
}

func TestCrashOfNegative(t *testing.T) {
	s := filled(t)
	for _, kept := range []int{-1, -2, math.MinInt} {
		remains(t, "Crash", s, func() {
			c, e := s.Crash(kept)
			answers(t, "Crash", e, api.ErrArg)
			if c != nil {
				t.Errorf("Crash(%d) returns a server", kept)
			}
		})
	}
	ticks(t, s, told()...)
}

// What was found after a crash is a server like any other.
func TestCrashGoesOn(t *testing.T) {
	s := filled(t)
	c := crashed(t, s, 0)
	flushes(t, c, 3, put("a", 2, "new"), put("e", 1, "five"))
	finds(t, c, put("a", 1, "one"))
	holds(t, crashed(t, c, 0), durable()...)
	d := c.Copy()
	for _, x := range []*depot.Server{c, d} {
		ticks(t, x, flushedOf(3, put("a", 2, "")), flushedOf(3, put("e", 1, "")))
		holds(t, x, put("a", 2, "new"), put("b", 2, "two"), gone("c", 1), put("e", 1, "five"))
		ticks(t, x)
	}
	ticks(t, s, told()...)
}

// A snapshot is there after each crash, with all that was newest then.
func TestCrashAfterCompact(t *testing.T) {
	s := filled(t)
	answers(t, "Compact", s.Compact(), api.OK)
	flushes(t, s, 3, put("a", 4, "four"))
	for kept := range len(s.Disk().Tail()) {
		holds(t, crashed(t, s, kept), atLast()...)
	}
	c := crashed(t, s, len(s.Disk().Tail()))
	finds(t, c, put("a", 4, "four"))
	ticks(t, c)
	ticks(t, s, append(told(), flushedOf(3, put("a", 4, "")))...)
}

// What is lost is flushed again, as nobody was told that it is durable.
func TestLostIsFlushedAgain(t *testing.T) {
	s, k := depot.New(), put("k", 1, "v")
	flushes(t, s, 7, k)
	s = crashed(t, s, 3)
	ticks(t, s)
	finds(t, s, unwritten("k"))
	flushes(t, s, 7, k)
	ticks(t, s, flushedOf(7, k))
	holds(t, crashed(t, s, 0), k)
}
