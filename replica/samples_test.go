package replica_test

import (
	"bytes"
	"slices"
	"strings"
	"testing"

	"icehouse/api"
	"icehouse/msgs"
	"icehouse/replica"
)

// The node of most tests, and one that asks it.
const (
	node  = 5
	asker = 9
)

func put(key string, seq int, v string) api.Entry {
	return api.Entry{Key: key, Tag: api.Tag{Seq: seq, Who: asker, Op: 1}, Val: api.Val{Has: true, B: []byte(v)}}
}

func gone(key string, seq int) api.Entry {
	return api.Entry{Key: key, Tag: api.Tag{Seq: seq, Who: asker, Op: 1}}
}

func unwritten(key string) api.Entry { return api.Entry{Key: key} }

func placeOf(n, size, batch, chunk int) api.Place {
	return api.Place{ID: node, Room: api.Room{Cells: n, Bytes: size, Buckets: 1, Fresh: true}, Batch: batch, Chunk: chunk}
}

func nodeAt(t *testing.T, p api.Place) *replica.Node {
	t.Helper()
	n, e := replica.New(p)
	if n == nil || e != api.OK {
		t.Fatalf("New(%v): error %d", p, e)
	}
	return n
}

// keyed is a message of an asker that has an entry.
func keyed(kind, epoch int, e api.Entry) api.Msg {
	return api.Msg{Kind: kind, From: asker, To: node, Epoch: epoch, Op: 4, E: e}
}

func askOf(epoch int, key string) api.Msg { return keyed(api.Ask, epoch, unwritten(key)) }

func keepOf(epoch int, e api.Entry) api.Msg { return keyed(api.Keep, epoch, e) }

func fillOf(epoch int, e api.Entry, token int) api.Msg {
	m := keyed(api.Fill, epoch, e)
	m.N = token
	return m
}

func flushedOf(e api.Entry) api.Msg {
	return api.Msg{Kind: api.Flushed, From: api.Depot, To: node, E: api.Entry{Key: e.Key, Tag: e.Tag}}
}

func sealOf(epoch, n int) api.Msg {
	return api.Msg{Kind: api.Seal, From: api.Chief, To: node, Epoch: epoch, N: n}
}

func installOf(epoch, n, op int, last bool, l ...api.Entry) api.Msg {
	return api.Msg{Kind: api.Install, From: api.Chief, To: node, Epoch: epoch, Op: op, N: n, Flag: last, L: l}
}

// The replies, written out.
func toldOf(m api.Msg, e api.Entry, whole bool, token int) api.Msg {
	return api.Msg{Kind: api.Told, From: m.To, To: m.From, Epoch: m.Epoch, Op: m.Op, N: token, Flag: whole, E: e}
}

func keptOf(m api.Msg) api.Msg {
	return api.Msg{Kind: api.Kept, From: m.To, To: m.From, Epoch: m.Epoch, Op: m.Op, E: unwritten(m.E.Key)}
}

func noRoomOf(m api.Msg) api.Msg {
	return api.Msg{Kind: api.NoRoom, From: m.To, To: m.From, Epoch: m.Epoch, Op: m.Op, E: unwritten(m.E.Key)}
}

func otherOf(m api.Msg, epoch int) api.Msg {
	return api.Msg{Kind: api.Other, From: m.To, To: m.From, Epoch: m.Epoch, Op: m.Op, N: epoch}
}

func readyOf(m api.Msg) api.Msg {
	return api.Msg{Kind: api.Ready, From: m.To, To: m.From, Epoch: m.Epoch, Op: m.Op}
}

func dumpOf(m api.Msg, op int, last bool, l ...api.Entry) api.Msg {
	return api.Msg{Kind: api.Dump, From: m.To, To: api.Chief, Epoch: m.Epoch, Op: op, N: m.N, Flag: last, L: l}
}

func beatOf(epoch int) api.Msg {
	return api.Msg{Kind: api.Beat, From: node, To: api.Chief, Epoch: epoch}
}

func flushOf(epoch int, e api.Entry) api.Msg {
	return api.Msg{Kind: api.Flush, From: node, To: api.Depot, Epoch: epoch, E: e}
}

func sameEntry(a, b api.Entry) bool {
	return a.Key == b.Key && a.Tag == b.Tag && a.Val.Has == b.Val.Has && bytes.Equal(a.Val.B, b.Val.B)
}

func sameMsg(a, b api.Msg) bool {
	return a.Kind == b.Kind && a.From == b.From && a.To == b.To && a.Epoch == b.Epoch && a.Op == b.Op &&
		a.N == b.N && a.Flag == b.Flag && sameEntry(a.E, b.E) && slices.EqualFunc(a.L, b.L, sameEntry) &&
		len(a.R.Nodes) == 0 && len(b.R.Nodes) == 0 && a.R.Each == b.R.Each && a.R.Keep == b.R.Keep
}

func sameMsgs(a, b []api.Msg) bool { return slices.EqualFunc(a, b, sameMsg) }

func sameCell(a, b api.Cell) bool {
	return sameEntry(a.E, b.E) && a.Whole == b.Whole && a.Clean == b.Clean && a.Used == b.Used
}

// sends holds what a node sends against that, and asks whether it may be.
func sends(t *testing.T, name string, got []api.Msg, want ...api.Msg) {
	t.Helper()
	if !sameMsgs(got, want) {
		t.Errorf("%s: %v, not %v", name, got, want)
	}
	for _, m := range got {
		if msgs.Check(m) != api.OK || m.From != node {
			t.Errorf("%s: %v may not be sent", name, m)
		}
	}
}

func handles(t *testing.T, n *replica.Node, m api.Msg, want ...api.Msg) {
	t.Helper()
	sends(t, "Handle", n.Handle(m), want...)
}

// stands holds mode and epoch of a node against these.
func stands(t *testing.T, n *replica.Node, mode, epoch int) {
	t.Helper()
	if n.Mode() != mode || n.Epoch() != epoch {
		t.Errorf("the mode is %d, not %d; the epoch is %d, not %d", n.Mode(), mode, n.Epoch(), epoch)
	}
}

// holds holds the entries of a node, by rising keys, against these.
func holds(t *testing.T, n *replica.Node, want ...api.Entry) {
	t.Helper()
	if got := entriesOf(n.Cells()); !slices.EqualFunc(got, want, sameEntry) {
		t.Errorf("the entries are %v, not %v", got, want)
	}
}

func entriesOf(l []api.Cell) []api.Entry {
	var out []api.Entry
	for _, c := range l {
		out = append(out, c.E)
	}
	return out
}

// marks tells of each cell its key, in capitals if it is clean, and a star if it is whole.
func marks(n *replica.Node) string {
	var out []string
	for _, c := range n.Cells() {
		key := c.E.Key
		if c.Clean {
			key = strings.ToUpper(key)
		}
		if c.Whole {
			key += "*"
		}
		out = append(out, key)
	}
	return strings.Join(out, " ")
}

func marked(t *testing.T, n *replica.Node, want string, tokens ...int) {
	t.Helper()
	if got := marks(n); got != want {
		t.Errorf("the cells are %q, not %q", got, want)
	}
	if got := n.Tokens(); !slices.Equal(got, tokens) {
		t.Errorf("the tokens are %v, not %v", got, tokens)
	}
}

// active returns a node that was installed in that epoch, by the try 0, with these entries.
func active(t *testing.T, p api.Place, epoch int, l ...api.Entry) *replica.Node {
	t.Helper()
	n := nodeAt(t, p)
	m := installOf(epoch, 0, 0, true, l...)
	handles(t, n, m, readyOf(m))
	stands(t, n, api.Active, epoch)
	return n
}
