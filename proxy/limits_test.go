package proxy_test

import (
	"slices"
	"strings"
	"testing"

	"icehouse/api"
	"icehouse/msgs"
	"icehouse/proxy"
	"icehouse/quorum"
)

// As many operations as there may be; the last one has a tag yet, and wrong calls are
// answered as ever behind it.
func TestMostOperations(t *testing.T) {
	p := inEpoch(t, 1, ringOf(3))
	told := toldOf(3, 1, 0, put("k", 1, "x"), true, 0)
	for op := 1; op < api.MaxID; op++ {
		l, a := p.Call(getOf(7, "k"))
		if len(l) != 1 || len(a) != 0 || l[0].Op != op {
			t.Fatalf("operation %d: %v and %v", op, l, a)
		}
		told.Op = op
		if l, a = p.Handle(told); len(l) != 0 || len(a) != 1 || a[0].E != api.OK {
			t.Fatalf("operation %d: %v and %v", op, l, a)
		}
	}
	c := p.Copy()
	for _, p := range []*proxy.Proxy{p, c} {
		sends(t, "Call", asks([]int{3}, 1, api.MaxID, "k")...)(p.Call(putOf(7, "k", "v")))
		for range 2 {
			answers(t, "Call", 8, api.ErrLong, api.Val{})(p.Call(getOf(8, "k")))
			answers(t, "Call", 7, api.ErrArg, api.Val{})(p.Call(getOf(7, "k")))
			answers(t, "Call", -8, api.ErrArg, api.Val{})(p.Call(getOf(-8, "k")))
			answers(t, "Call", 8, api.ErrArg, api.Val{})(p.Call(api.Call{ID: 8, Key: "k"}))
		}
		e := mine("k", 1, api.MaxID, some("v"))
		sends(t, "Told", keeps([]int{3}, 1, api.MaxID, e)...)(p.Handle(toldOf(3, 1, api.MaxID, put("k", 1, "x"), true, 0)))
		answers(t, "Kept", 7, api.OK, api.Val{})(p.Handle(keptOf(3, 1, api.MaxID, "k")))
		answers(t, "Call", 7, api.ErrLong, api.Val{})(p.Call(getOf(7, "k")))
		pends(t, p)
	}
}

// Calls that wait for a ring are operations, too: as many of them at once as there may be.
func TestMostWaiting(t *testing.T) {
	p := proxyAt(t, 2)
	var want []int
	for op := 1; op <= api.MaxID; op++ {
		if l, a := p.Call(getOf(3*op, "k")); len(l)+len(a) != 0 {
			t.Fatalf("operation %d: %v and %v", op, l, a)
		}
		want = append(want, 3*op)
	}
	answers(t, "Call", 1, api.ErrLong, api.Val{})(p.Call(getOf(1, "k")))
	answers(t, "Call", 3, api.ErrArg, api.Val{})(p.Call(getOf(3, "k")))
	if got := p.Pending(); !slices.Equal(got, want) {
		t.Errorf("%d pend", len(got))
	}
	sends(t, "Tick")(p.Tick())
	_, a := p.Tick()
	for i, id := range want {
		if a[i].ID != id || a[i].E != api.ErrTime {
			t.Fatalf("answer %d is %v", i, a[i])
		}
	}
	pends(t, p)
	answers(t, "Call", 1, api.ErrLong, api.Val{})(p.Call(getOf(1, "k")))
}

// The greatest ring, of which all nodes keep each key.
func TestGreatestRing(t *testing.T) {
	r := api.Ring{Each: api.MaxEach, Keep: api.MaxMembers}
	for i := range api.MaxMembers {
		r.Nodes = append(r.Nodes, api.MaxID-1000+3*i)
	}
	p := inEpoch(t, api.MaxSeq, r)
	order := keepersOf(t, r, "k")
	sends(t, "Call", asks(order, api.MaxSeq, 1, "k")...)(p.Call(getOf(1, "k")))
	var fills []api.Msg
	need := quorum.Need(len(order))
	for i, k := range order[:need] {
		m := toldOf(k, api.MaxSeq, 1, put("k", i+1, "x"), i%2 == 0, api.MaxSeq-i)
		if !m.Flag {
			fills = append(fills, fillOf(k, api.MaxSeq, 1, put("k", 90, "z"), api.MaxSeq-i))
		}
		if i < need-1 {
			sends(t, "Told")(p.Handle(m))
		} else {
			sends(t, "Told", lookOf(api.MaxSeq, 1, "k")...)(p.Handle(m))
		}
	}
	e := put("k", 90, "z")
	sends(t, "Found", append(fills, keeps(order, api.MaxSeq, 1, e)...)...)(p.Handle(foundOf(api.MaxSeq, 1, e)))
	for i, k := range order[:need-1] {
		sends(t, "Kept")(p.Handle(keptOf(k, api.MaxSeq, 1, "k")))
		sends(t, "Tick", keeps(order[i+1:], api.MaxSeq, 1, e)...)(p.Tick())
	}
	answers(t, "Kept", 1, api.OK, some("z"))(p.Handle(keptOf(order[63], api.MaxSeq, 1, "k")))
}

// The longest keys and values, with the greatest numbers.
func TestLongestEntries(t *testing.T) {
	key, v := strings.Repeat("\xff", api.MaxKey), strings.Repeat("v", api.MaxVal)
	p, err := proxy.New(api.MaxID, api.MaxWait)
	if err != api.OK {
		t.Fatal(err)
	}
	handle := func(m api.Msg) ([]api.Msg, []api.Answer) {
		m.To = api.MaxID
		return p.Handle(m)
	}
	handle(newsOf(api.MaxSeq, ringOf(3, 4)))
	p.Call(api.Call{ID: api.MaxSeq, Kind: api.Get, Key: key})
	last := api.Entry{Key: key, Tag: api.Tag{Seq: api.MaxSeq, Who: api.MaxID, Op: api.MaxID}, Val: some(v)}
	handle(toldOf(3, api.MaxSeq, 1, last, false, api.MaxSeq))
	handle(toldOf(4, api.MaxSeq, 1, unwritten(key), false, 0))
	l, a := handle(foundOf(api.MaxSeq, 1, last))
	if len(l) != 4 || len(a) != 0 {
		t.Fatalf("%d messages, %d answers", len(l), len(a))
	}
	for _, m := range l {
		if msgs.Check(m) != api.OK || !sameEntry(m.E, last) || m.From != api.MaxID {
			t.Errorf("kind %d to %d is not as it should be", m.Kind, m.To)
		}
	}
	for range api.MaxWait - 2 {
		if l, a := p.Tick(); len(l) != 2 || len(a) != 0 {
			t.Fatalf("%d messages, %d answers", len(l), len(a))
		}
	}
	c := p.Copy()
	p.Tick()
	answers(t, "Tick", api.MaxSeq, api.ErrTime, api.Val{})(p.Tick())
	p = c
	handle(keptOf(3, api.MaxSeq, 1, key))
	answers(t, "Kept", api.MaxSeq, api.OK, some(v))(handle(keptOf(4, api.MaxSeq, 1, key)))
}

// Many operations at once begin, and begin again, in time.
func TestManyAtOnce(t *testing.T) {
	const most = 30000
	p := proxyAt(t, 9)
	for op := 1; op <= most; op++ {
		p.Call(putOf(most-op, "k", "v"))
	}
	var want []api.Msg
	for op := 1; op <= most; op++ {
		want = append(want, asks([]int{5, 4, 3}, 1, op, "k")...)
	}
	sends(t, "News", want...)(p.Handle(newsOf(1, three())))
	for op := most; op > 0; op-- {
		p.Handle(toldOf(4, 1, op, unwritten("k"), true, 0))
		p.Handle(toldOf(3, 1, op, unwritten("k"), true, 0))
		p.Handle(keptOf(4, 1, op, "k"))
		answers(t, "Kept", most-op, api.OK, api.Val{})(p.Handle(keptOf(3, 1, op, "k")))
	}
	pends(t, p)
}
