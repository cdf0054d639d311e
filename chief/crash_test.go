package chief_test

import (
	"math"
	"testing"

	"icehouse/api"
)

func TestCrashOfLessThanNothing(t *testing.T) {
	c := sealing(t, 2)
	before := recordsOf(t, c)
	for _, kept := range []int{-1, -2, math.MinInt32, math.MinInt} {
		if d, e := c.Crash(kept); d != nil || e != api.ErrArg {
			t.Errorf("Crash(%d): error %d", kept, e)
		}
	}
	wrote(t, "Crash", c, before...)
	lacks(t, "Crash", c, 2, 3, 4)
}

// Everything is durable at once, so that it does not matter how much of the tail is kept.
func TestCrash(t *testing.T) {
	for _, kept := range []int{0, 1, 11, math.MaxInt} {
		c := chiefAt(t, 4, 2, 3)
		c = crashed(t, c, kept)
		stands(t, "New", c, api.Idle, term{}, term{})
		wrote(t, "New", c)
		issue(t, c, api.Replica, api.Agent)
		c = crashed(t, c, kept)
		wrote(t, "Issue", c, record(2, 2, 1), record(2, 3, 2))
		issue(t, c, api.Replica, api.Agent, api.Replica)
		changes(t, c, api.ErrArg, 2, 3)
		changes(t, c, api.OK, 4, 2)
		c = crashed(t, c, kept)
		r := term{1, ringOf(4, 2, 2, 4)}
		stands(t, "Change", c, api.Installing, term{}, r)
		ticks(t, "Change", c, emptyOf(1, 2, 2, 4)...)
		if c.Issued() != 5 {
			t.Errorf("%d issued", c.Issued())
		}
		ready(t, c, 2, 4)
		c = crashed(t, c, kept)
		stands(t, "established", c, api.Idle, r, r)
		ticks(t, "established", c, newsOf(3, 1, r.ring), newsOf(5, 1, r.ring))
		wrote(t, "established", c, record(2, 2, 1), record(2, 3, 2), record(2, 4, 1), record(2, 5, 2), record(2, 6, 1),
			record(1, 1, 4, 2, 2, 4), record(4, 1), record(3, 1))
	}
}

// What crashed is still as it was, and so is what was found.
func TestCrashLeavesBoth(t *testing.T) {
	c := sealing(t, 2)
	before := recordsOf(t, c)
	d := crashed(t, c, 0)
	wrote(t, "what crashed", c, before...)
	wrote(t, "what was found", d, append(before, record(4, 2))...)
	handles(t, c, part(2, 0, true), part(3, 0, true))
	installs(t, "what crashed", c, 2)
	ticks(t, "what was found", d, sealsOf(2, 3, 2, 3, 4)...)
	issue(t, c, api.Agent)
	ready(t, c, 4, 5)
	wrote(t, "what was found", d, append(before, record(4, 2))...)
	stands(t, "what was found", d, api.Sealing, term{1, ringOf(1, 3, 2, 3, 4)}, term{2, ringOf(1, 3, 4, 5, 6)})
	if d.Issued() != 5 {
		t.Errorf("%d issued", d.Issued())
	}
	handles(t, d, dumpOf(2, 2, 3, 0, true, put("k", 1, "x")), dumpOf(4, 2, 3, 0, true))
	ready(t, d, 4, 5)
	r := term{2, ringOf(1, 3, 4, 5, 6)}
	stands(t, "what was found", d, api.Idle, r, r)
	stands(t, "what crashed", c, api.Idle, r, r)
	wrote(t, "what was found", d, append(before, record(4, 2), record(3, 2))...)
	wrote(t, "what crashed", c, append(before, record(2, 7, 2), record(3, 2))...)
}

// What was collected is lost: it is collected once more, by another try.
func TestCrashWhileInstalling(t *testing.T) {
	c := sealing(t, 2)
	x, y := put("k", 1, "x"), put("k", 2, "y")
	handles(t, c, part(2, 0, true, x), part(3, 0, true))
	ready(t, c, 5)
	c = crashed(t, c, 0)
	ticks(t, "Crash", c, sealsOf(2, 3, 2, 3, 4)...)
	ready(t, c, 4, 6)
	stands(t, "Crash", c, api.Sealing, term{1, ringOf(1, 3, 2, 3, 4)}, term{2, ringOf(1, 3, 4, 5, 6)})
	handles(t, c, dumpOf(3, 2, 3, 0, true, y), dumpOf(4, 2, 3, 0, true))
	ticks(t, "collected", c, installOf(4, 2, 3, 0, true, y), installOf(5, 2, 3, 0, true, y), installOf(6, 2, 3, 0, true, y))
}

// Those that were not ready before are not told any more.
func TestCrashWhileSomeAreNotReady(t *testing.T) {
	c := sealing(t, 2)
	handles(t, c, part(2, 0, true), part(3, 0, true))
	ready(t, c, 4, 5)
	ticks(t, "enough", c, emptyOf(2, 2, 6)...)
	c = crashed(t, c, 0)
	r := term{2, ringOf(1, 3, 4, 5, 6)}
	stands(t, "Crash", c, api.Idle, r, r)
	ticks(t, "Crash", c)
	ready(t, c, 6, 4, 5)
	ticks(t, "Crash", c)
	stands(t, "Crash", c, api.Idle, r, r)
	changes(t, c, api.OK, 2, 3, 4)
	ticks(t, "the next one", c, sealsOf(3, 3, 4, 5, 6)...)
}

// Each crash that finds something undone makes a try.
func TestTriesAreCounted(t *testing.T) {
	c := chiefAt(t, 1, 1, 1)
	replicas(t, c, 2)
	try := 0
	for epoch := 1; epoch < 8; epoch++ {
		changes(t, c, api.OK, 2+epoch%2)
		try++
		for range epoch {
			c = crashed(t, c, 0)
			try++
		}
		if epoch > 1 {
			ticks(t, "Sealing", c, sealOf(2+(epoch+1)%2, epoch, try))
			handles(t, c, dumpOf(2+(epoch+1)%2, epoch, try, 0, true))
		}
		ticks(t, "Installing", c, installOf(2+epoch%2, epoch, try, 0, true))
		ready(t, c, 2+epoch%2)
		for range 3 {
			c = crashed(t, c, 0)
		}
		r := term{epoch, ringOf(1, 1, 2+epoch%2)}
		stands(t, "established", c, api.Idle, r, r)
	}
	if tryOf(t, c) != try {
		t.Errorf("%d tries, not %d", tryOf(t, c), try)
	}
}
