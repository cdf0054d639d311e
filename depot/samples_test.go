package depot_test

import (
	"bytes"
	"fmt"
	"slices"
	"strings"
	"testing"

	"icehouse/api"
	"icehouse/depot"
	"icehouse/disk"
	"icehouse/msgs"
)

func put(key string, seq int, v string) api.Entry {
	return api.Entry{Key: key, Tag: api.Tag{Seq: seq, Who: 9, Op: 1}, Val: api.Val{Has: true, B: []byte(v)}}
}

func gone(key string, seq int) api.Entry {
	return api.Entry{Key: key, Tag: api.Tag{Seq: seq, Who: 9, Op: 1}}
}

func unwritten(key string) api.Entry { return api.Entry{Key: key} }

// flushOf is as no node sends it: with an Op, which is to be heeded by nobody.
func flushOf(from int, e api.Entry) api.Msg {
	return api.Msg{Kind: api.Flush, From: from, To: api.Depot, Epoch: 4, Op: 6, E: e}
}

func lookOf(from int, key string) api.Msg {
	return api.Msg{Kind: api.Look, From: from, To: api.Depot, Epoch: 2, Op: 8, E: unwritten(key)}
}

// The replies, written out.
func foundOf(m api.Msg, e api.Entry) api.Msg {
	return api.Msg{Kind: 8, From: 1, To: m.From, Epoch: m.Epoch, Op: m.Op, E: e}
}

func flushedOf(who int, e api.Entry) api.Msg {
	return api.Msg{Kind: 11, From: 1, To: who, E: api.Entry{Key: e.Key, Tag: e.Tag}}
}

func sameEntry(a, b api.Entry) bool {
	return a.Key == b.Key && a.Tag == b.Tag && a.Val.Has == b.Val.Has && bytes.Equal(a.Val.B, b.Val.B)
}

func alike(a, b []api.Entry) bool { return slices.EqualFunc(a, b, sameEntry) }

func sameMsg(a, b api.Msg) bool {
	return a.Kind == b.Kind && a.From == b.From && a.To == b.To && a.Epoch == b.Epoch && a.Op == b.Op &&
		a.N == b.N && a.Flag == b.Flag && sameEntry(a.E, b.E) && alike(a.L, b.L) &&
		slices.Equal(a.R.Nodes, b.R.Nodes) && a.R.Each == b.R.Each && a.R.Keep == b.R.Keep
}

func sameMsgs(a, b []api.Msg) bool { return slices.EqualFunc(a, b, sameMsg) }

// text tells of values no more than can be read.
func text(x any) string {
	s := fmt.Sprint(x)
	return s[:min(len(s), 300)]
}

// sends holds what a server sends against that, and asks whether it may be.
func sends(t *testing.T, name string, got []api.Msg, want ...api.Msg) {
	t.Helper()
	if !sameMsgs(got, want) {
		t.Errorf("%s: %s, not %s", name, text(got), text(want))
	}
	for _, m := range got {
		if msgs.Check(m) != api.OK {
			t.Errorf("%s: %s may not be sent", name, text(m))
		}
	}
}

func handles(t *testing.T, s *depot.Server, m api.Msg, want ...api.Msg) {
	t.Helper()
	sends(t, "Handle", s.Handle(m), want...)
}

func ticks(t *testing.T, s *depot.Server, want ...api.Msg) {
	t.Helper()
	sends(t, "Tick", s.Tick(), want...)
}

// flushes gives entries to a server, all from one node.
func flushes(t *testing.T, s *depot.Server, from int, l ...api.Entry) {
	t.Helper()
	for _, e := range l {
		handles(t, s, flushOf(from, e))
	}
}

// finds looks for the key of e.
func finds(t *testing.T, s *depot.Server, e api.Entry) {
	t.Helper()
	m := lookOf(5, e.Key)
	handles(t, s, m, foundOf(m, e))
}

// holds holds the durable entries, by rising keys, against these.
func holds(t *testing.T, s *depot.Server, want ...api.Entry) {
	t.Helper()
	if got := s.All(); !alike(got, want) {
		t.Errorf("the durable entries are %s, not %s", text(got), text(want))
	}
	for _, e := range want {
		finds(t, s, e)
		if got := s.Get(e.Key); !sameEntry(got, e) {
			t.Errorf("Get: %s, not %s", text(got), text(e))
		}
	}
}

// answers reports a fault unless a call returned that error.
func answers(t *testing.T, name string, got, want api.Errno) {
	t.Helper()
	if got != want {
		t.Errorf("%s: error %d, not %d", name, got, want)
	}
}

func crashed(t *testing.T, s *depot.Server, kept int) *depot.Server {
	t.Helper()
	c, e := s.Crash(kept)
	if c == nil || e != api.OK {
		t.Fatalf("Crash(%d): %v, error %d", kept, c, e)
	}
	return c
}

func sameDisk(a, b *disk.Disk) bool {
	return a != nil && b != nil && bytes.Equal(a.Lasting(), b.Lasting()) && bytes.Equal(a.Tail(), b.Tail()) && a.Syncs() == b.Syncs()
}

// remains holds all that a server tells without being changed, and how many Acks are
// pending, against what it was.
func remains(t *testing.T, name string, s *depot.Server, do func()) {
	t.Helper()
	all, d, waiting := s.All(), s.Disk(), s.Waiting()
	do()
	if !alike(s.All(), all) || !sameDisk(s.Disk(), d) || s.Waiting() != waiting {
		t.Errorf("%s: the server is another one", name)
	}
}

func long(n int) string { return strings.Repeat("x", n) }

// filled is a server with durable entries, and some that are not; two are flushed of one
// key, one of them twice, and one is older than what is durable.
func filled(t *testing.T) *depot.Server {
	t.Helper()
	s := depot.New()
	flushes(t, s, 7, put("b", 2, "two"), gone("c", 1), put("a", 1, "one"))
	ticks(t, s, flushedOf(7, put("b", 2, "")), flushedOf(7, gone("c", 1)), flushedOf(7, put("a", 1, "")))
	flushes(t, s, 8, put("a", 2, "new"), put("b", 1, "old"), put("a", 2, "new"), gone("a", 3), put("d", 1, "four"))
	return s
}

// durable: what filled has now, and after a tick.
func durable() []api.Entry { return []api.Entry{put("a", 1, "one"), put("b", 2, "two"), gone("c", 1)} }

func atLast() []api.Entry {
	return []api.Entry{gone("a", 3), put("b", 2, "two"), gone("c", 1), put("d", 1, "four")}
}

// told: what filled sends at the next tick.
func told() []api.Msg {
	var out []api.Msg
	for _, e := range []api.Entry{put("a", 2, ""), put("b", 1, ""), put("a", 2, ""), gone("a", 3), put("d", 1, "")} {
		out = append(out, flushedOf(8, e))
	}
	return out
}
