package chief_test

import (
	"math"
	"slices"
	"testing"

	"icehouse/api"
	"icehouse/chief"
)

// The chapter's example.
func TestExample(t *testing.T) {
	c := chiefAt(t, 1, 3, 10)
	for want := 2; want < 5; want++ {
		if n, e := c.Issue(api.Replica); n != want || e != api.OK {
			t.Errorf("Issue: %d, not %d, and error %d", n, want, e)
		}
	}
	r := ringOf(1, 3, 2, 3, 4)
	changes(t, c, api.OK, 2, 3, 4)
	stands(t, "Change", c, api.Installing, term{}, term{1, r})
	ready(t, c, 4)
	stands(t, "one is ready", c, api.Installing, term{}, term{1, r})
	ready(t, c, 2)
	stands(t, "two are ready", c, api.Idle, term{1, r}, term{1, r})
}

func TestNew(t *testing.T) {
	for _, x := range [][3]int{{1, 1, 1}, {64, 64, 64}, {1, 64, 1}, {64, 1, 64}, {1, 1, 64}, {3, 2, 5}} {
		c := chiefAt(t, x[0], x[1], x[2])
		stands(t, "New", c, api.Idle, term{}, term{})
		ticks(t, "New", c)
		wrote(t, "New", c)
		if c.Issued() != 0 || len(c.Disk().Bytes()) != 0 {
			t.Errorf("New: %d issued, disk %v", c.Issued(), c.Disk().Bytes())
		}
	}
}

func TestNewOfWrongNumbers(t *testing.T) {
	for i := range 3 {
		for _, wrong := range []int{0, -1, 65, 66, 1 << 20, math.MaxInt, math.MinInt, -64} {
			x := [3]int{1, 1, 1}
			x[i] = wrong
			if c, e := chief.New(x[0], x[1], x[2]); c != nil || e != api.ErrArg {
				t.Errorf("New%v: error %d", x, e)
			}
		}
	}
}

func TestNil(t *testing.T) {
	var c *chief.Chief
	for _, role := range []int{api.Replica, api.Agent, 0, 3} {
		if n, e := c.Issue(role); n != 0 || e != api.ErrNil {
			t.Errorf("Issue(%d): %d, error %d", role, n, e)
		}
	}
	changes(t, c, api.ErrNil)
	changes(t, c, api.ErrNil, 2)
	for _, kept := range []int{-1, 0, 1} {
		if d, e := c.Crash(kept); d != nil || e != api.ErrNil {
			t.Errorf("Crash(%d): error %d", kept, e)
		}
	}
	handles(t, c, readyOf(2, 0), dumpOf(2, 0, 0, 0, true), api.Msg{})
	ticks(t, "nil", c)
	stands(t, "nil", c, 0, term{}, term{})
	if c.Issued() != 0 || c.Disk() != nil {
		t.Errorf("%d issued, disk %v", c.Issued(), c.Disk())
	}
}

// A chief that New has not made can decide nothing.
func TestZero(t *testing.T) {
	c := &chief.Chief{}
	handles(t, c, readyOf(0, 0), dumpOf(0, 0, 0, 0, true), readyOf(2, 0))
	ticks(t, "zero", c)
	issue(t, c, api.Replica, api.Agent)
	changes(t, c, api.ErrArg, 2)
	changes(t, c, api.ErrArg)
	c = crashed(t, c, 0)
	ticks(t, "zero", c)
	stands(t, "zero", c, api.Idle, term{}, term{})
	if c.Issued() != 2 {
		t.Errorf("%d issued", c.Issued())
	}
}

func TestIssue(t *testing.T) {
	c := chiefAt(t, 2, 2, 2)
	var want []api.Record
	for i := range 600 {
		role := 1 + i%7%2
		issue(t, c, role)
		want = append(want, record(2, i+2, role))
		if c.Issued() != i+1 || c.Disk().Syncs() != i+1 {
			t.Fatalf("%d issued, %d times synced, not %d", c.Issued(), c.Disk().Syncs(), i+1)
		}
	}
	wrote(t, "Issue", c, want...)
	stands(t, "Issue", c, api.Idle, term{}, term{})
}

func TestIssueOfNoRole(t *testing.T) {
	c := chiefAt(t, 1, 1, 1)
	issue(t, c, api.Agent)
	for _, role := range []int{0, 3, -1, -2, 257, 258, math.MaxInt, math.MinInt} {
		if n, e := c.Issue(role); n != 0 || e != api.ErrArg {
			t.Errorf("Issue(%d): %d, error %d", role, n, e)
		}
	}
	wrote(t, "Issue", c, record(2, 2, api.Agent))
	issue(t, c, api.Replica)
}

// Numbers are assigned in all phases.
func TestIssueInAllPhases(t *testing.T) {
	c := chiefAt(t, 1, 1, 1)
	replicas(t, c, 1)
	changes(t, c, api.OK, 2)
	issue(t, c, api.Replica)
	stands(t, "Issue", c, api.Installing, term{}, term{1, ringOf(1, 1, 2)})
	ready(t, c, 2)
	changes(t, c, api.OK, 2, 3)
	issue(t, c, api.Agent)
	stands(t, "Issue", c, api.Sealing, term{1, ringOf(1, 1, 2)}, term{2, ringOf(1, 1, 2, 3)})
	ticks(t, "Issue", c, sealOf(2, 2, 2), newsOf(4, 1, ringOf(1, 1, 2)))
	wrote(t, "Issue", c, record(2, 2, 1), record(1, 1, 1, 1, 2), record(2, 3, 1), record(3, 1), record(1, 2, 1, 1, 2, 3), record(2, 4, 2))
}

func TestChange(t *testing.T) {
	c := chiefAt(t, 7, 2, 4)
	replicas(t, c, 5)
	changes(t, c, api.OK, 6, 3, 4)
	r := ringOf(7, 2, 3, 4, 6)
	stands(t, "Change", c, api.Installing, term{}, term{1, r})
	ticks(t, "Change", c, emptyOf(1, 1, 3, 4, 6)...)
	want := []api.Record{record(2, 2, 1), record(2, 3, 1), record(2, 4, 1), record(2, 5, 1), record(2, 6, 1), record(1, 1, 7, 2, 3, 4, 6)}
	wrote(t, "Change", c, want...)
	if c.Disk().Syncs() != 6 {
		t.Errorf("%d times synced", c.Disk().Syncs())
	}
}

// A ring is what ring.Check doesn't refuse, of numbers that Replicas have.
func TestChangeOfWrongNodes(t *testing.T) {
	c := chiefAt(t, 1, 3, 1)
	replicas(t, c, 3)
	issue(t, c, api.Agent, api.Replica)
	var before []api.Record
	for _, wrong := range [][]int{
		nil, {}, {2}, {2, 3}, {2, 2, 3}, {2, 3, 3}, {2, 3, 4, 3}, {2, 3, 5}, {5, 2, 3, 4}, {2, 3, 7}, {7, 4, 3, 2}, {2, 3, 4, 8},
		{1, 2, 3}, {0, 2, 3}, {-1, 2, 3}, {2, 3, 4, 1}, {2, 3, 4, 0}, {2, 3, 4, -5}, {2, 3, math.MaxInt}, {2, 3, math.MinInt},
		{2, 3, math.MinInt + 1}, {2, 3, 4, api.MaxID}, {2, 3, 4, api.MaxID + 1}, slices.Repeat([]int{2, 3, 4}, 30),
	} {
		before = recordsOf(t, c)
		changes(t, c, api.ErrArg, wrong...)
		stands(t, "Change", c, api.Idle, term{}, term{})
		wrote(t, "Change", c, before...)
		ticks(t, "Change", c)
	}
	changes(t, c, api.OK, 6, 2, 4)
	stands(t, "Change", c, api.Installing, term{}, term{1, ringOf(1, 3, 2, 4, 6)})
}

func TestChangeOfMostNodes(t *testing.T) {
	c := chiefAt(t, 1, 64, 1)
	replicas(t, c, 65)
	var all []int
	for n := 66; n >= 2; n-- {
		all = append(all, n)
	}
	changes(t, c, api.ErrArg, all...)
	changes(t, c, api.ErrArg, all[2:]...)
	changes(t, c, api.OK, all[1:]...)
	_, r := c.Next()
	if len(r.Nodes) != 64 || r.Nodes[0] != 2 || r.Nodes[63] != 65 {
		t.Errorf("the ring is %v", r)
	}
	ready(t, c, r.Nodes[:32]...)
	stands(t, "half of them are ready", c, api.Installing, term{}, term{1, r})
	ready(t, c, r.Nodes[32])
	stands(t, "more are ready", c, api.Idle, term{1, r}, term{1, r})
}

// A change that is not done is ahead of one that may not be.
func TestChangeWhileBusy(t *testing.T) {
	c := chiefAt(t, 1, 1, 1)
	replicas(t, c, 2)
	busy := func(name string) {
		t.Helper()
		before := recordsOf(t, c)
		changes(t, c, api.ErrBusy)
		changes(t, c, api.ErrBusy, 2)
		changes(t, c, api.ErrBusy, 2, 3)
		changes(t, c, api.ErrBusy, 2, 2)
		changes(t, c, api.ErrBusy, 99)
		wrote(t, name, c, before...)
	}
	changes(t, c, api.OK, 2)
	busy("Installing")
	c = crashed(t, c, 0)
	busy("Installing again")
	ready(t, c, 2)
	changes(t, c, api.OK, 3)
	busy("Sealing")
	c = crashed(t, c, 0)
	busy("Sealing again")
	handles(t, c, dumpOf(2, 2, 4, 0, true))
	stands(t, "all have dumped", c, api.Installing, term{1, ringOf(1, 1, 2)}, term{2, ringOf(1, 1, 3)})
	busy("Installing")
	ready(t, c, 3)
	changes(t, c, api.OK, 3)
	stands(t, "the same once more", c, api.Sealing, term{2, ringOf(1, 1, 3)}, term{3, ringOf(1, 1, 3)})
}

// A change that is refused ends nothing: one that is not ready is still told.
func TestChangeThatIsRefused(t *testing.T) {
	c := chiefAt(t, 1, 3, 1)
	replicas(t, c, 4)
	changes(t, c, api.OK, 2, 3, 4)
	ready(t, c, 4, 2)
	r := term{1, ringOf(1, 3, 2, 3, 4)}
	stands(t, "enough are ready", c, api.Idle, r, r)
	for _, wrong := range [][]int{nil, {2, 3}, {2, 3, 6}} {
		changes(t, c, api.ErrArg, wrong...)
		stands(t, "refused", c, api.Idle, r, r)
		ticks(t, "refused", c, installOf(3, 1, 1, 0, true))
	}
	changes(t, c, api.OK, 2, 4, 5)
	ticks(t, "the next one", c, sealsOf(2, 2, 2, 3, 4)...)
}

// News goes to all Agents, in all phases, as soon as there is a ring.
func TestNews(t *testing.T) {
	c := chiefAt(t, 3, 1, 1)
	issue(t, c, api.Agent, api.Replica, api.Agent, api.Replica)
	r, s := ringOf(3, 1, 3), ringOf(3, 1, 3, 5)
	ticks(t, "no ring", c)
	changes(t, c, api.OK, 3)
	ticks(t, "no established ring", c, installOf(3, 1, 1, 0, true))
	ready(t, c, 3)
	ticks(t, "Idle", c, newsOf(2, 1, r), newsOf(4, 1, r))
	changes(t, c, api.OK, 3, 5)
	issue(t, c, api.Agent)
	ticks(t, "Sealing", c, sealOf(3, 2, 2), newsOf(2, 1, r), newsOf(4, 1, r), newsOf(6, 1, r))
	handles(t, c, dumpOf(3, 2, 2, 0, true))
	ticks(t, "Installing", c, installOf(3, 2, 2, 0, true), installOf(5, 2, 2, 0, true), newsOf(2, 1, r), newsOf(4, 1, r), newsOf(6, 1, r))
	ready(t, c, 3)
	ticks(t, "not enough", c, installOf(5, 2, 2, 0, true), newsOf(2, 1, r), newsOf(4, 1, r), newsOf(6, 1, r))
	ready(t, c, 5)
	ticks(t, "Idle", c, newsOf(2, 2, s), newsOf(4, 2, s), newsOf(6, 2, s))
	c = crashed(t, c, 0)
	ticks(t, "Crash", c, newsOf(2, 2, s), newsOf(4, 2, s), newsOf(6, 2, s))
}

// Nothing that is not to the chief, of the decided epoch, and as it may be, is taken.
func TestMessagesThatAreNotTaken(t *testing.T) {
	c := chiefAt(t, 1, 2, 1)
	replicas(t, c, 3)
	established(t, c, 2, 3)
	changes(t, c, api.OK, 3, 4)
	was, next := term{1, ringOf(1, 2, 2, 3)}, term{2, ringOf(1, 2, 3, 4)}
	spoilt := func(m api.Msg) []api.Msg {
		out := slices.Repeat([]api.Msg{m}, 11)
		out[0].To = api.Depot
		out[1].To = m.From
		out[2].Epoch = 1
		out[3].Epoch = 3
		out[4].Epoch = 0
		out[5].From = -1
		out[6].E.Key = "k"
		out[7].R = ringOf(1, 1, 2)
		out[8].Op = -1
		out[9].L = []api.Entry{{}}
		out[10].Epoch = api.MaxSeq + 1
		return out
	}
	for _, n := range []int{2, 3} {
		handles(t, c, spoilt(dumpOf(n, 2, 2, 0, true))...)
		handles(t, c, dumpOf(n, 2, 1, 0, true), dumpOf(n, 2, 3, 0, true), dumpOf(n, 2, 0, 0, true), dumpOf(n, 2, 2, 0, true, make([]api.Entry, 1001)...))
	}
	handles(t, c, dumpOf(4, 2, 2, 0, true), dumpOf(1, 2, 2, 0, true), dumpOf(0, 2, 2, 0, true), readyOf(3, 2), readyOf(4, 2))
	stands(t, "Sealing", c, api.Sealing, was, next)
	ticks(t, "Sealing", c, sealsOf(2, 2, 2, 3)...)
	handles(t, c, dumpOf(3, 2, 2, 0, true), dumpOf(2, 2, 2, 0, true))
	for _, n := range []int{3, 4} {
		handles(t, c, spoilt(readyOf(n, 2))...)
		for kind := range 30 {
			if m := toChief(kind-5, n, 2); m.Kind != api.Ready {
				handles(t, c, m)
			}
		}
	}
	handles(t, c, readyOf(2, 2), readyOf(0, 2), readyOf(5, 2))
	stands(t, "Installing", c, api.Installing, was, next)
	ticks(t, "Installing", c, emptyOf(2, 2, 3, 4)...)
}
