package chief_test

import (
	"bytes"
	"slices"
	"testing"

	"icehouse/api"
	"icehouse/chief"
	"icehouse/msgs"
	"icehouse/pack"
	"icehouse/ring"
	"icehouse/wal"
)

func put(key string, seq int, v string) api.Entry {
	return api.Entry{Key: key, Tag: api.Tag{Seq: seq, Who: 9, Op: 1}, Val: api.Val{Has: true, B: []byte(v)}}
}

func gone(key string, seq int) api.Entry {
	return api.Entry{Key: key, Tag: api.Tag{Seq: seq, Who: 9, Op: 1}}
}

func unwritten(key string) api.Entry { return api.Entry{Key: key} }

func ringOf(each, keep int, nodes ...int) api.Ring {
	return api.Ring{Nodes: nodes, Each: each, Keep: keep}
}

func chiefAt(t *testing.T, each, keep, chunk int) *chief.Chief {
	t.Helper()
	c, e := chief.New(each, keep, chunk)
	if c == nil || e != api.OK {
		t.Fatalf("New(%d, %d, %d): error %d", each, keep, chunk, e)
	}
	return c
}

// issue assigns one more number for each of the roles.
func issue(t *testing.T, c *chief.Chief, roles ...int) {
	t.Helper()
	for _, role := range roles {
		want := c.Issued() + 2
		if n, e := c.Issue(role); n != want || e != api.OK {
			t.Fatalf("Issue(%d): %d, not %d, and error %d", role, n, want, e)
		}
	}
}

// replicas: the numbers from 2 on are those of n Replicas.
func replicas(t *testing.T, c *chief.Chief, n int) {
	t.Helper()
	issue(t, c, slices.Repeat([]int{api.Replica}, n)...)
}

func changes(t *testing.T, c *chief.Chief, want api.Errno, nodes ...int) {
	t.Helper()
	if e := c.Change(nodes...); e != want {
		t.Errorf("Change(%v): error %d, not %d", nodes, e, want)
	}
}

// toChief is a message to it.
func toChief(kind, from, epoch int) api.Msg {
	return api.Msg{Kind: kind, From: from, To: api.Chief, Epoch: epoch}
}

func readyOf(from, epoch int) api.Msg { return toChief(api.Ready, from, epoch) }

func dumpOf(from, epoch, try, op int, last bool, l ...api.Entry) api.Msg {
	m := toChief(api.Dump, from, epoch)
	m.N, m.Op, m.Flag, m.L = try, op, last, l
	return m
}

// handles: whatever comes, nothing is sent.
func handles(t *testing.T, c *chief.Chief, l ...api.Msg) {
	t.Helper()
	for _, m := range l {
		if out := c.Handle(m); len(out) > 0 {
			t.Errorf("Handle(%v): %v", m, out)
		}
	}
}

// ready tells that these nodes are, in the decided epoch.
func ready(t *testing.T, c *chief.Chief, nodes ...int) {
	t.Helper()
	epoch, _ := c.Next()
	for _, n := range nodes {
		handles(t, c, readyOf(n, epoch))
	}
}

// established changes to these nodes, of which none has anything.
func established(t *testing.T, c *chief.Chief, nodes ...int) {
	t.Helper()
	changes(t, c, api.OK, nodes...)
	if c.Phase() == api.Sealing {
		epoch, _ := c.Next()
		_, r := c.Epoch()
		for _, n := range r.Nodes {
			handles(t, c, dumpOf(n, epoch, tryOf(t, c), 0, true))
		}
	}
	ready(t, c, nodes...)
	if was, r := c.Epoch(); c.Phase() != api.Idle || was == 0 || !slices.Equal(r.Nodes, slices.Sorted(slices.Values(nodes))) {
		t.Fatalf("epoch %d, ring %v, and phase %d", was, r, c.Phase())
	}
}

// tryOf is how many records tell of a try.
func tryOf(t *testing.T, c *chief.Chief) int {
	t.Helper()
	n := 0
	for _, r := range recordsOf(t, c) {
		if r.Kind == 1 || r.Kind == 4 {
			n++
		}
	}
	return n
}

// The messages of a Tick, written out.
func sealOf(to, epoch, try int) api.Msg {
	return api.Msg{Kind: api.Seal, From: api.Chief, To: to, Epoch: epoch, N: try}
}

func installOf(to, epoch, try, op int, last bool, l ...api.Entry) api.Msg {
	return api.Msg{Kind: api.Install, From: api.Chief, To: to, Epoch: epoch, N: try, Op: op, Flag: last, L: l}
}

func newsOf(to, epoch int, r api.Ring) api.Msg {
	return api.Msg{Kind: api.News, From: api.Chief, To: to, Epoch: epoch, R: r}
}

// sealsOf are those of nodes that have not dumped.
func sealsOf(epoch, try int, nodes ...int) []api.Msg {
	var out []api.Msg
	for _, n := range nodes {
		out = append(out, sealOf(n, epoch, try))
	}
	return out
}

// emptyOf are those of nodes in which nothing is to be installed.
func emptyOf(epoch, try int, nodes ...int) []api.Msg {
	var out []api.Msg
	for _, n := range nodes {
		out = append(out, installOf(n, epoch, try, 0, true))
	}
	return out
}

func sameEntry(a, b api.Entry) bool {
	return a.Key == b.Key && a.Tag == b.Tag && a.Val.Has == b.Val.Has && bytes.Equal(a.Val.B, b.Val.B)
}

func sameMsg(a, b api.Msg) bool {
	return a.Kind == b.Kind && a.From == b.From && a.To == b.To && a.Epoch == b.Epoch && a.Op == b.Op &&
		a.N == b.N && a.Flag == b.Flag && sameEntry(a.E, b.E) && slices.EqualFunc(a.L, b.L, sameEntry) && ring.Same(a.R, b.R)
}

func sameMsgs(a, b []api.Msg) bool { return slices.EqualFunc(a, b, sameMsg) }

// ticks holds what a Tick sends against that, and asks whether it may be.
func ticks(t *testing.T, name string, c *chief.Chief, want ...api.Msg) {
	t.Helper()
	got := c.Tick()
	if !sameMsgs(got, want) {
		t.Errorf("%s: Tick: %v, not %v", name, got, want)
	}
	for _, m := range got {
		if msgs.Check(m) != api.OK || m.From != api.Chief {
			t.Errorf("%s: %v may not be sent", name, m)
		}
	}
}

// term is an epoch and its ring.
type term struct {
	epoch int
	ring  api.Ring
}

// stands holds how far a chief is against that.
func stands(t *testing.T, name string, c *chief.Chief, phase int, was, next term) {
	t.Helper()
	if c.Phase() != phase {
		t.Errorf("%s: the phase is %d, not %d", name, c.Phase(), phase)
	}
	if n, r := c.Epoch(); n != was.epoch || !ring.Same(r, was.ring) {
		t.Errorf("%s: established are %d and %v, not %v", name, n, r, was)
	}
	if n, r := c.Next(); n != next.epoch || !ring.Same(r, next.ring) {
		t.Errorf("%s: decided are %d and %v, not %v", name, n, r, next)
	}
}

// record is one of such numbers.
func record(kind byte, numbers ...int) api.Record {
	r := api.Record{Kind: kind}
	for _, n := range numbers {
		r.B = append(r.B, pack.Num(n)...)
	}
	return r
}

// recordsOf reads the disk of a chief, on which nothing may be lost.
func recordsOf(t *testing.T, c *chief.Chief) []api.Record {
	t.Helper()
	d := c.Disk()
	if len(d.Tail()) > 0 {
		t.Errorf("%d bytes of the disk may be lost", len(d.Tail()))
	}
	w, cut, e := wal.Open(d)
	if cut != 0 || e != api.OK {
		t.Fatalf("the log: %d bytes too many, error %d", cut, e)
	}
	return w.Records()
}

func sameRecords(a, b []api.Record) bool {
	return slices.EqualFunc(a, b, func(x, y api.Record) bool { return x.Kind == y.Kind && bytes.Equal(x.B, y.B) })
}

// wrote holds all records against these; each was synced by itself.
func wrote(t *testing.T, name string, c *chief.Chief, want ...api.Record) {
	t.Helper()
	if got := recordsOf(t, c); !sameRecords(got, want) {
		t.Errorf("%s: the records are %v, not %v", name, got, want)
	}
}

// crashed returns the chief that is found after a crash.
func crashed(t *testing.T, c *chief.Chief, kept int) *chief.Chief {
	t.Helper()
	d, e := c.Crash(kept)
	if d == nil || d == c || e != api.OK {
		t.Fatalf("Crash(%d): error %d", kept, e)
	}
	return d
}
