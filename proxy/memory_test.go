package proxy_test

import (
	"slices"
	"testing"

	"icehouse/api"
	"icehouse/proxy"
)

// spoil overwrites bytes up to their capacity.
func spoil(b []byte) {
	b = b[:cap(b)]
	for i := range b {
		b[i] = '#'
	}
}

func spoilMsgs(l []api.Msg) {
	l = l[:cap(l)]
	for i := range l {
		spoil(l[i].E.Val.B)
		l[i] = api.Msg{Kind: api.Beat, From: 77}
	}
}

func spoilAnswers(l []api.Answer) {
	l = l[:cap(l)]
	for i := range l {
		spoil(l[i].Val.B)
		l[i] = api.Answer{ID: 77}
	}
}

// The bytes of a call are neither changed nor kept.
func TestCallIsNotRetained(t *testing.T) {
	p := inEpoch(t, 1, ringOf(3))
	long := []byte("value and more")
	p.Call(api.Call{ID: 1, Kind: api.Put, Key: "k", B: long[:5:14]})
	if string(long) != "value and more" {
		t.Errorf("the bytes are %q", long)
	}
	spoil(long)
	e := mine("k", 0, 1, some("value"))
	sends(t, "Told", keeps([]int{3}, 1, 1, e)...)(p.Handle(toldOf(3, 1, 1, unwritten("k"), true, 0)))
	sends(t, "Tick", keeps([]int{3}, 1, 1, e)...)(p.Tick())
}

// Nor are those of a message, or its ring.
func TestMessagesAreNotRetained(t *testing.T) {
	p := proxyAt(t, 100)
	nodes := []int{3, 4, 5, 6}
	p.Handle(newsOf(1, api.Ring{Nodes: nodes[:3], Each: 1, Keep: 3}))
	if !slices.Equal(nodes, []int{3, 4, 5, 6}) {
		t.Errorf("the nodes are %v", nodes)
	}
	copy(nodes, []int{11, 12, 13})
	sends(t, "Call", asks([]int{5, 4, 3}, 1, 1, "k")...)(p.Call(getOf(1, "k")))
	x, y := put("k", 3, "one"), put("k", 2, "two")
	p.Handle(toldOf(3, 1, 1, x, false, 1))
	spoil(x.Val.B)
	p.Handle(toldOf(5, 1, 1, y, false, 1))
	spoil(y.Val.B)
	c := p.Copy()
	// What was told is the best of the one, what was found of the other.
	z := put("k", 1, "three")
	p.Handle(foundOf(1, 1, z))
	spoil(z.Val.B)
	sends(t, "Tick", keeps([]int{5, 4, 3}, 1, 1, put("k", 3, "one"))...)(p.Tick())
	z = put("k", 9, "three")
	c.Handle(foundOf(1, 1, z))
	spoil(z.Val.B)
	sends(t, "Tick", keeps([]int{5, 4, 3}, 1, 1, put("k", 9, "three"))...)(c.Tick())
	answersKept := func(p *proxy.Proxy, v string) {
		sends(t, "Kept")(p.Handle(keptOf(3, 1, 1, "k")))
		answers(t, "Kept", 1, api.OK, some(v))(p.Handle(keptOf(4, 1, 1, "k")))
	}
	answersKept(p, "one")
	answersKept(c, "three")
}

// What becomes of a message that was sent is seen neither in another one, nor in what is
// sent or answered later.
func TestSentIsNewMemory(t *testing.T) {
	p := inEpoch(t, 1, three())
	p.Call(getOf(1, "k"))
	spoilMsgs(first(p.Tick()))
	p.Handle(toldOf(3, 1, 1, put("k", 3, "one"), false, 1))
	l, _ := p.Handle(toldOf(5, 1, 1, put("k", 2, "two"), false, 2))
	spoilMsgs(l)
	found := put("k", 4, "three")
	l, _ = p.Handle(foundOf(1, 1, found))
	want := append([]api.Msg{fillOf(5, 1, 1, found, 2), fillOf(3, 1, 1, found, 1)}, keeps([]int{5, 4, 3}, 1, 1, found)...)
	for i := range l {
		if !sameMsgs(l[i:], want[i:]) {
			t.Fatalf("%v is sent behind what was spoilt, not %v", l[i:], want[i:])
		}
		spoil(l[i].E.Val.B)
	}
	spoilMsgs(l)
	if string(found.Val.B) != "three" {
		t.Errorf("the value that was found is %q", found.Val.B)
	}
	one, other := first(p.Tick()), first(p.Tick())
	spoilMsgs(one)
	sends(t, "Tick", keeps([]int{5, 4, 3}, 1, 1, found)...)(other, nil)
	c := p.Copy()
	for _, x := range []*proxy.Proxy{p, c} {
		sends(t, "News", keeps([]int{3}, 2, 1, found)...)(x.Handle(newsOf(2, ringOf(3))))
		_, a := x.Handle(keptOf(3, 2, 1, "k"))
		answers(t, "Kept", 1, api.OK, some("three"))(nil, a)
		spoilAnswers(a)
	}
}

func first(l []api.Msg, _ []api.Answer) []api.Msg { return l }

// An answer shares nothing with the message that brought it about, nor do the answers of a
// proxy and of its copy share anything.
func TestAnswersAreNewMemory(t *testing.T) {
	p := queried(t, getOf(1, "k"), put("k", 3, "one"), false)
	p.Handle(toldOf(5, 1, 1, put("k", 3, "two"), true, 0))
	c := p.Copy()
	found := put("k", 3, "three")
	_, a := p.Handle(foundOf(1, 1, found))
	answers(t, "Found", 1, api.OK, some("two"))(nil, a)
	spoilAnswers(a)
	_, a = c.Handle(foundOf(1, 1, found))
	answers(t, "Found", 1, api.OK, some("two"))(nil, a)
	p = queried(t, getOf(1, "k"), put("k", 3, "one"), true)
	m := toldOf(5, 1, 1, put("k", 3, "two"), true, 0)
	_, a = p.Handle(m)
	spoilAnswers(a)
	if string(m.E.Val.B) != "two" {
		t.Errorf("the value that was told is %q", m.E.Val.B)
	}
}

func TestPendingIsNewMemory(t *testing.T) {
	p := inEpoch(t, 1, ringOf(3))
	for id := range 5 {
		p.Call(getOf(id, "k"))
	}
	l := p.Pending()
	for i := range l[:cap(l)] {
		l[:cap(l)][i] = 77
	}
	pends(t, p, 0, 1, 2, 3, 4)
}

// states: proxies in all phases, each made anew.
func states(t *testing.T) []*proxy.Proxy {
	t.Helper()
	waits := proxyAt(t, 9)
	waits.Call(putOf(1, "k", "v"))
	waits.Tick()
	waits.Call(getOf(2, "a"))
	asks := waits.Copy()
	asks.Handle(newsOf(1, three()))
	one := asks.Copy()
	one.Handle(toldOf(3, 1, 1, put("k", 3, "one"), false, 1))
	one.Handle(toldOf(3, 1, 2, put("a", 3, "one"), true, 1))
	looks := one.Copy()
	looks.Handle(toldOf(4, 1, 1, put("k", 2, "two"), false, 1))
	looks.Handle(toldOf(4, 1, 2, put("a", 2, "two"), true, 1))
	writes := looks.Copy()
	writes.Handle(foundOf(1, 1, put("k", 4, "three")))
	kept := writes.Copy()
	kept.Handle(keptOf(3, 1, 1, "k"))
	kept.Handle(noRoomOf(4, 1, 1, "k"))
	kept.Handle(noRoomOf(3, 1, 2, "a"))
	return []*proxy.Proxy{proxyAt(t, 9), waits, asks, one, looks, writes, kept}
}

// later is a long row of calls, and all that is given.
func later(p *proxy.Proxy) ([]api.Msg, []api.Answer) {
	var l []api.Msg
	var a []api.Answer
	add := func(m []api.Msg, more []api.Answer) { l, a = append(l, m...), append(a, more...) }
	add(p.Call(getOf(2, "k")))
	add(p.Call(deleteOf(3, "k")))
	for _, m := range []api.Msg{
		newsOf(1, ringOf(4)), toldOf(4, 1, 1, put("k", 2, "x"), true, 0), toldOf(5, 1, 1, put("k", 2, "x"), true, 0), foundOf(1, 1, put("k", 9, "z")), toldOf(5, 1, 2, put("a", 7, "y"), true, 0),
		keptOf(5, 1, 1, "k"), noRoomOf(5, 1, 2, "a"), newsOf(2, ringOf(3, 8)), toldOf(3, 2, 1, put("k", 1, "x"), true, 0), toldOf(8, 2, 3, put("k", 1, "x"), true, 0), keptOf(8, 2, 1, "k"), keptOf(8, 2, 2, "k"),
	} {
		add(p.Handle(m))
		add(p.Tick())
	}
	for _, id := range p.Pending() {
		a = append(a, api.Answer{ID: id, E: api.Errno(p.Epoch())})
	}
	return l, a
}

// A copy gives what the proxy would, and neither sees what the other one is told.
func TestCopy(t *testing.T) {
	for i := range states(t) {
		want, all := later(states(t)[i])
		p := states(t)[i]
		c := p.Copy()
		gives(t, "the proxy", want, all...)(later(p))
		d := c.Copy()
		gives(t, "the copy", want, all...)(later(c))
		spoilProxy(p)
		spoilProxy(c)
		gives(t, "the copy of the copy", want, all...)(later(d))
	}
}

// Two proxies have nothing in common.
func TestProxiesAreIndependent(t *testing.T) {
	for i := range states(t) {
		want, all := later(states(t)[i])
		p, other := states(t)[i], states(t)[i]
		spoilProxy(other)
		gives(t, "the proxy", want, all...)(later(p))
	}
}
