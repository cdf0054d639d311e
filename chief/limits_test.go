package chief_test

import (
	"slices"
	"testing"

	"icehouse/api"
	"icehouse/chief"
	"icehouse/pack"
)

// head is what a frame on the disk has beside the bytes of its record.
const head = 10

// room is how many bytes the disk of a chief can still take.
func room(c *chief.Chief) int { return api.MaxDisk - len(c.Disk().Bytes()) }

// filled returns a chief whose disk has room for less than that, but for what one number
// takes less at most. The first numbers are those of Replicas.
func filled(t *testing.T, keep, below int) *chief.Chief {
	t.Helper()
	c := chiefAt(t, 1, keep, 1)
	for left := api.MaxDisk; left >= below; {
		role := api.Replica
		if c.Issued() > 1000 {
			role = 1 + c.Issued()%2
		}
		n, e := c.Issue(role)
		if e != api.OK {
			t.Fatalf("Issue: error %d", e)
		}
		left -= head + len(pack.Num(n)) + len(pack.Num(role))
	}
	return c
}

// nodesOf are the n numbers from 2 on.
func nodesOf(n int) []int {
	var out []int
	for i := range n {
		out = append(out, i+2)
	}
	return out
}

// size is that of the record of a change to n of these nodes, in an early epoch.
func size(n int) int { return head + 6 + 2*n }

func TestIssueOnAFullDisk(t *testing.T) {
	c := filled(t, 1, head+6)
	n, left := c.Issued(), room(c)
	if left >= head+6 || n < 200000 {
		t.Fatalf("%d issued, room for %d bytes", n, left)
	}
	for range 3 {
		for _, role := range []int{api.Replica, api.Agent} {
			if got, e := c.Issue(role); got != 0 || e != api.ErrLong {
				t.Errorf("Issue: %d, error %d", got, e)
			}
		}
		if got, e := c.Issue(3); got != 0 || e != api.ErrArg {
			t.Errorf("Issue of no role: %d, error %d", got, e)
		}
	}
	if c.Issued() != n || room(c) != left || len(c.Disk().Tail()) > 0 || c.Disk().Syncs() != n {
		t.Errorf("%d issued, not %d; room for %d bytes, not %d", c.Issued(), n, room(c), left)
	}
	changes(t, c, api.ErrArg, n+2)
	changes(t, c, api.ErrLong, 2)
	stands(t, "Change", c, api.Idle, term{}, term{})
	d := crashed(t, c, 0)
	if d.Issued() != n || room(d) != left {
		t.Errorf("%d issued, not %d; room for %d bytes, not %d", d.Issued(), n, room(d), left)
	}
}

// A change that can't be written changes nothing, be there a ring or not.
func TestChangeOnAFullDisk(t *testing.T) {
	c := filled(t, 1, size(64))
	left := room(c)
	changes(t, c, api.ErrLong, nodesOf(64)...)
	changes(t, c, api.ErrArg, 1)
	stands(t, "Change", c, api.Idle, term{}, term{})
	ticks(t, "Change", c)
	if room(c) != left || len(c.Disk().Tail()) > 0 {
		t.Errorf("room for %d bytes, not %d", room(c), left)
	}
	changes(t, c, api.OK, 3)
	r := term{1, ringOf(1, 1, 3)}
	stands(t, "Change", c, api.Installing, term{}, r)
	if l := c.Tick(); !sameMsgs(l, emptyOf(1, 1, 3)) {
		t.Errorf("Tick: %v", l)
	}
	ready(t, c, 3)
	stands(t, "Ready", c, api.Idle, r, r)
	changes(t, c, api.ErrLong, nodesOf(64)...)
	stands(t, "Change", c, api.Idle, r, r)
	l := c.Tick()
	if len(l) < 100000 || slices.ContainsFunc(l, func(m api.Msg) bool { return m.Kind != api.News || m.Epoch != 1 }) {
		t.Errorf("%d messages", len(l))
	}
	changes(t, c, api.OK, 4)
	if l := c.Tick(); !sameMsgs(l[:1], sealsOf(2, 2, 3)) {
		t.Errorf("Tick: %v", l[0])
	}
}

// What can't be made durable is not established, and can't be tried once more.
func TestEstablishOnAFullDisk(t *testing.T) {
	c := filled(t, 1, size(64)+1)
	n := (room(c) - size(0)) / 2
	changes(t, c, api.OK, nodesOf(n)...)
	left := room(c)
	if left >= head+2 {
		t.Fatalf("room for %d bytes", left)
	}
	next := term{1, ringOf(1, 1, nodesOf(n)...)}
	for range 2 {
		ready(t, c, next.ring.Nodes...)
		stands(t, "Ready", c, api.Installing, term{}, next)
		ticks(t, "Ready", c)
	}
	changes(t, c, api.ErrBusy, 2)
	for _, kept := range []int{0, 1} {
		if d, e := c.Crash(kept); d != nil || e != api.ErrLong {
			t.Errorf("Crash: error %d", e)
		}
	}
	if room(c) != left || len(c.Disk().Tail()) > 0 {
		t.Errorf("room for %d bytes, not %d", room(c), left)
	}
}

// The greatest rings, and lists of entries.
func TestGreatestRings(t *testing.T) {
	c := chiefAt(t, 64, 64, 64)
	replicas(t, c, 65)
	all := nodesOf(65)
	established(t, c, all[:64]...)
	changes(t, c, api.OK, all[1:]...)
	var l []api.Entry
	for i := range api.MaxList {
		l = append(l, put(string([]rune{rune(i), 'k'}), 1, "v"))
	}
	for i, n := range all[:33] {
		if c.Phase() != api.Sealing {
			t.Errorf("%d have dumped: the phase is %d", i, c.Phase())
		}
		handles(t, c, dumpOf(n, 2, 2, 0, true, l...))
	}
	if c.Phase() != api.Installing {
		t.Fatalf("the phase is %d", c.Phase())
	}
	got := c.Tick()
	if len(got) != 64*16 {
		t.Fatalf("%d messages", len(got))
	}
	for i, m := range got {
		part := l[i%16*64 : min(i%16*64+64, len(l))]
		if want := installOf(3+i/16, 2, 2, i%16, i%16 == 15, part...); !sameMsg(m, want) {
			t.Fatalf("%v, not %v", m, want)
		}
	}
}

// Very many parts, in any order; the last one may come first.
func TestManyParts(t *testing.T) {
	const n = 30000
	orders := map[string]func(i int) int{
		"upwards":         func(i int) int { return i },
		"downwards":       func(i int) int { return n - 1 - i },
		"the last, first": func(i int) int { return (i + n - 1) % n },
		"mixed":           func(i int) int { return i * 7 % n },
	}
	for name, order := range orders {
		c := chiefAt(t, 1, 1, 64)
		replicas(t, c, 1)
		established(t, c, 2)
		changes(t, c, api.OK, 2)
		handles(t, c, dumpOf(2, 2, 2, n+1, false, put("k", n+1, "v")))
		for i := range n {
			if c.Phase() != api.Sealing {
				t.Fatalf("%s: %d parts are enough", name, i)
			}
			handles(t, c, dumpOf(2, 2, 2, order(i), order(i) == n-1, put("k", order(i)+1, "v")))
		}
		ticks(t, name, c, installOf(2, 2, 2, 0, true, put("k", n, "v")))
	}
}
