package proxy_test

import (
	"bytes"
	"slices"
	"testing"

	"icehouse/api"
	"icehouse/msgs"
	"icehouse/proxy"
	"icehouse/ring"
)

// The proxy of most tests.
const me = 9

func put(key string, seq int, v string) api.Entry {
	return api.Entry{Key: key, Tag: api.Tag{Seq: seq, Who: 2, Op: 7}, Val: some(v)}
}

func gone(key string, seq int) api.Entry {
	return api.Entry{Key: key, Tag: api.Tag{Seq: seq, Who: 2, Op: 7}}
}

func unwritten(key string) api.Entry { return api.Entry{Key: key} }

func some(v string) api.Val { return api.Val{Has: true, B: []byte(v)} }

func getOf(id int, key string) api.Call { return api.Call{ID: id, Kind: api.Get, Key: key} }

func putOf(id int, key, v string) api.Call {
	return api.Call{ID: id, Kind: api.Put, Key: key, B: []byte(v)}
}

func deleteOf(id int, key string) api.Call { return api.Call{ID: id, Kind: api.Delete, Key: key} }

// ringOf: all nodes keep each key.
func ringOf(nodes ...int) api.Ring { return api.Ring{Nodes: nodes, Each: 1, Keep: len(nodes)} }

func keepersOf(t *testing.T, r api.Ring, key string) []int {
	t.Helper()
	l, e := ring.Keepers(r, key)
	if e != api.OK {
		t.Fatalf("Keepers(%v): error %d", r, e)
	}
	return l
}

func newsOf(epoch int, r api.Ring) api.Msg {
	return api.Msg{Kind: api.News, From: api.Chief, To: me, Epoch: epoch, R: r}
}

// What is sent to the proxy.
func toMe(kind, from, epoch, op int, e api.Entry) api.Msg {
	return api.Msg{Kind: kind, From: from, To: me, Epoch: epoch, Op: op, E: e}
}

func toldOf(from, epoch, op int, e api.Entry, whole bool, token int) api.Msg {
	m := toMe(api.Told, from, epoch, op, e)
	m.Flag, m.N = whole, token
	return m
}

func foundOf(epoch, op int, e api.Entry) api.Msg {
	return toMe(api.Found, api.Depot, epoch, op, e)
}

func keptOf(from, epoch, op int, key string) api.Msg {
	return toMe(api.Kept, from, epoch, op, unwritten(key))
}

func noRoomOf(from, epoch, op int, key string) api.Msg {
	return toMe(api.NoRoom, from, epoch, op, unwritten(key))
}

// What the proxy sends.
func sent(kind, to, epoch, op int, e api.Entry) api.Msg {
	return api.Msg{Kind: kind, From: me, To: to, Epoch: epoch, Op: op, E: e}
}

func asks(to []int, epoch, op int, key string) []api.Msg {
	var out []api.Msg
	for _, k := range to {
		out = append(out, sent(api.Ask, k, epoch, op, unwritten(key)))
	}
	return out
}

func lookOf(epoch, op int, key string) []api.Msg {
	return []api.Msg{sent(api.Look, api.Depot, epoch, op, unwritten(key))}
}

func keeps(to []int, epoch, op int, e api.Entry) []api.Msg {
	var out []api.Msg
	for _, k := range to {
		out = append(out, sent(api.Keep, k, epoch, op, e))
	}
	return out
}

func fillOf(to, epoch, op int, e api.Entry, token int) api.Msg {
	m := sent(api.Fill, to, epoch, op, e)
	m.N = token
	return m
}

// mine is what the operation op of the proxy writes upon an entry with that Seq.
func mine(key string, seq, op int, v api.Val) api.Entry {
	return api.Entry{Key: key, Tag: api.Tag{Seq: seq + 1, Who: me, Op: op}, Val: v}
}

func sameVal(a, b api.Val) bool { return a.Has == b.Has && bytes.Equal(a.B, b.B) }

func sameEntry(a, b api.Entry) bool {
	return a.Key == b.Key && a.Tag == b.Tag && sameVal(a.Val, b.Val)
}

func sameMsg(a, b api.Msg) bool {
	return a.Kind == b.Kind && a.From == b.From && a.To == b.To && a.Epoch == b.Epoch && a.Op == b.Op &&
		a.N == b.N && a.Flag == b.Flag && sameEntry(a.E, b.E) && len(a.L)+len(b.L) == 0 &&
		len(a.R.Nodes)+len(b.R.Nodes) == 0 && a.R.Each == b.R.Each && a.R.Keep == b.R.Keep
}

func sameMsgs(a, b []api.Msg) bool { return slices.EqualFunc(a, b, sameMsg) }

func sameAnswers(a, b []api.Answer) bool {
	return slices.EqualFunc(a, b, func(x, y api.Answer) bool { return x.ID == y.ID && x.E == y.E && sameVal(x.Val, y.Val) })
}

func proxyAt(t *testing.T, wait int) *proxy.Proxy {
	t.Helper()
	p, e := proxy.New(me, wait)
	if p == nil || e != api.OK {
		t.Fatalf("New(%d, %d): error %d", me, wait, e)
	}
	return p
}

// inEpoch returns a proxy that was told of an epoch.
func inEpoch(t *testing.T, epoch int, r api.Ring) *proxy.Proxy {
	t.Helper()
	p := proxyAt(t, 100)
	sends(t, "News")(p.Handle(newsOf(epoch, r)))
	return p
}

// sends returns a function that holds what a call of the proxy gives against that: only
// messages.
func sends(t *testing.T, name string, want ...api.Msg) func(l []api.Msg, a []api.Answer) {
	return gives(t, name, want)
}

// answers is the same for only one answer.
func answers(t *testing.T, name string, id int, e api.Errno, v api.Val) func(l []api.Msg, a []api.Answer) {
	return gives(t, name, nil, api.Answer{ID: id, E: e, Val: v})
}

// gives holds both against what is wanted, and asks whether the messages may be.
func gives(t *testing.T, name string, want []api.Msg, all ...api.Answer) func(l []api.Msg, a []api.Answer) {
	return func(l []api.Msg, a []api.Answer) {
		t.Helper()
		if !sameMsgs(l, want) {
			t.Errorf("%s: sends %v, not %v", name, l, want)
		}
		if !sameAnswers(a, all) {
			t.Errorf("%s: answers %v, not %v", name, a, all)
		}
		for _, m := range l {
			if msgs.Check(m) != api.OK {
				t.Errorf("%s: %v may not be sent", name, m)
			}
		}
	}
}

func pends(t *testing.T, p *proxy.Proxy, want ...int) {
	t.Helper()
	if got := p.Pending(); !slices.Equal(got, want) {
		t.Errorf("%v pend, not %v", got, want)
	}
}
