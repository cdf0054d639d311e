package proxy_test

import (
	"slices"
	"strconv"
	"strings"
	"testing"

	"icehouse/api"
	"icehouse/proxy"
)

// act is a call, of the proxy and of the paper. It returns the proxy that goes on, and what
// is given.
type act struct {
	name string
	do   func(p *proxy.Proxy) (*proxy.Proxy, []api.Msg, []api.Answer)
	want func(p *paper) ([]api.Msg, []api.Answer)
}

func callAct(c api.Call) act {
	return act{
		"Call " + strconv.Itoa(c.ID) + " kind " + strconv.Itoa(c.Kind) + " " + c.Key,
		func(p *proxy.Proxy) (*proxy.Proxy, []api.Msg, []api.Answer) {
			l, a := p.Call(c)
			return p, l, a
		},
		func(p *paper) ([]api.Msg, []api.Answer) { return p.callOf(c) },
	}
}

func handleAct(m api.Msg) act {
	return act{
		"kind " + strconv.Itoa(m.Kind) + " from " + strconv.Itoa(m.From) + " epoch " + strconv.Itoa(m.Epoch) + " op " + strconv.Itoa(m.Op) + " " + m.E.Key + strconv.Itoa(m.E.Tag.Seq) + " " + strconv.FormatBool(m.Flag),
		func(p *proxy.Proxy) (*proxy.Proxy, []api.Msg, []api.Answer) {
			l, a := p.Handle(m)
			return p, l, a
		},
		func(p *paper) ([]api.Msg, []api.Answer) { return p.handle(m) },
	}
}

func tickAct() act {
	return act{
		"Tick",
		func(p *proxy.Proxy) (*proxy.Proxy, []api.Msg, []api.Answer) {
			l, a := p.Tick()
			return p, l, a
		},
		func(p *paper) ([]api.Msg, []api.Answer) { return p.tick() },
	}
}

// spoilProxy brings a proxy that nothing is asked of any more to where it would not be.
func spoilProxy(p *proxy.Proxy) {
	p.Call(putOf(77, "a", "?"))
	for op := range 9 {
		for from := range 9 {
			p.Handle(toldOf(from, p.Epoch(), op, put("k", 99, "?"), op%2 == 0, 9))
			p.Handle(keptOf(from, p.Epoch(), op, "k"))
		}
		p.Handle(foundOf(p.Epoch(), op, put("k", 98, "?")))
	}
	p.Tick()
	p.Handle(newsOf(99, ringOf(4)))
	for op := range 9 {
		p.Handle(toldOf(4, 99, op, put("k", 99, "?"), true, 9))
		p.Handle(keptOf(4, 99, op, "k"))
	}
	for range 100 {
		p.Tick()
	}
}

// copyAct goes on with a copy, or with the proxy itself, while the other one is spoilt.
func copyAct(goOn bool) act {
	name := "Copy that is left"
	if goOn {
		name = "Copy"
	}
	return act{
		name,
		func(p *proxy.Proxy) (*proxy.Proxy, []api.Msg, []api.Answer) {
			c := p.Copy()
			if goOn {
				p, c = c, p
			}
			spoilProxy(c)
			return p, nil, nil
		},
		func(p *paper) ([]api.Msg, []api.Answer) { return nil, nil },
	}
}

// acts: two calls, and messages to them of two epochs and of several senders, in any order.
func acts() []act {
	out := []act{tickAct(), copyAct(true), copyAct(false)}
	for _, c := range []api.Call{getOf(1, "k"), putOf(1, "k", "v"), deleteOf(2, "k"), getOf(3, "a"), {ID: 2}} {
		out = append(out, callAct(c))
	}
	add := func(l ...api.Msg) {
		for _, m := range l {
			out = append(out, handleAct(m))
		}
	}
	add(newsOf(1, three()), newsOf(2, ringOf(3, 8)))
	for _, from := range []int{3, 4, 5} {
		add(
			toldOf(from, 1, 1, put("k", from, "x"), true, from), toldOf(from, 1, 1, put("k", 3, strconv.Itoa(from)), from != 4, from),
			keptOf(from, 1, 1, "k"), noRoomOf(from, 1, 1, "k"),
		)
	}
	add(toldOf(6, 1, 1, put("k", 7, "x"), true, 0), toldOf(3, 2, 1, put("k", 7, "x"), true, 0), keptOf(3, 2, 1, "k"), noRoomOf(8, 2, 1, "k"))
	add(toldOf(8, 2, 1, put("k", api.MaxSeq, "x"), true, 0), toldOf(3, 1, 2, put("k", 1, "x"), true, 0), toldOf(5, 1, 2, put("a", 1, "x"), true, 0))
	add(foundOf(1, 1, put("k", 4, "z")), foundOf(1, 1, gone("k", 9)), foundOf(2, 1, put("k", 3, "z")), foundOf(1, 2, put("a", 9, "z")))
	return out
}

// rows calls do with each row of up to so many acts.
func rows(l []act, most int, do func(row []act)) {
	var longer func(row []act)
	longer = func(row []act) {
		do(row)
		if len(row) == most {
			return
		}
		for _, a := range l {
			longer(append(row[:len(row):len(row)], a))
		}
	}
	longer(nil)
}

// play holds a proxy against the paper: what each call gives, and what it does at the end.
func play(t *testing.T, wait int, row []act) {
	t.Helper()
	x, p := proxyAt(t, wait), &paper{id: me, wait: wait}
	for i, a := range row {
		next, l, answers := a.do(x)
		wantL, wantA := a.want(p)
		if !sameMsgs(l, wantL) || !sameAnswers(answers, wantA) {
			t.Errorf("%s: %v and %v, not %v and %v", namesOf(row[:i+1]), l, answers, wantL, wantA)
		}
		x = next
	}
	p.agrees(t, namesOf(row), x)
	l, answers := x.Tick()
	wantL, wantA := p.tick()
	if !sameMsgs(l, wantL) || !sameAnswers(answers, wantA) {
		t.Errorf("%s: Tick: %v and %v, not %v and %v", namesOf(row), l, answers, wantL, wantA)
	}
}

func namesOf(row []act) string {
	name := "New"
	for _, a := range row {
		name += ", " + a.name
	}
	return name
}

func TestRowsOfCalls(t *testing.T) {
	for _, wait := range []int{1, 3} {
		rows(acts(), 3, func(row []act) { play(t, wait, row) })
	}
}

// The same behind what has to be there before.
func TestLaterRowsOfCalls(t *testing.T) {
	news := handleAct(newsOf(1, three()))
	told := func(from, seq int, whole bool) act {
		return handleAct(toldOf(from, 1, 1, put("k", seq, "x"), whole, from))
	}
	for _, before := range [][]act{
		{callAct(getOf(1, "k")), news},
		{news, callAct(getOf(1, "k")), told(3, 3, true)},
		{news, callAct(putOf(1, "k", "v")), told(4, 4, false)},
		{news, callAct(getOf(1, "k")), told(3, 3, false), told(5, 5, true)},
		{news, callAct(deleteOf(1, "k")), told(3, 3, true), told(4, 3, false)},
		{news, callAct(getOf(1, "k")), told(3, 3, true), told(5, 5, true)},
		{news, callAct(putOf(1, "k", "v")), told(3, 3, true), told(5, 5, true)},
		{news, callAct(putOf(1, "k", "v")), told(3, 3, true), told(5, 5, true), handleAct(keptOf(4, 1, 1, "k")), handleAct(noRoomOf(5, 1, 1, "k"))},
		{callAct(getOf(1, "k")), callAct(putOf(2, "a", "w")), news, callAct(deleteOf(3, "k"))},
	} {
		rows(acts(), 2, func(row []act) { play(t, 4, slices.Concat(before, row)) })
	}
}

// Rows of the acts of one operation.
func TestRowsOfOneOperation(t *testing.T) {
	var l []act
	for _, from := range []int{3, 5} {
		l = append(l, handleAct(toldOf(from, 1, 1, put("k", from, "x"), from == 3, from)), handleAct(keptOf(from, 1, 1, "k")), handleAct(noRoomOf(from, 1, 1, "k")))
	}
	l = append(l, handleAct(foundOf(1, 1, put("k", 4, "z"))))
	for _, c := range []api.Call{getOf(1, "k"), putOf(1, "k", "v"), deleteOf(1, "k")} {
		before := []act{handleAct(newsOf(1, three())), callAct(c)}
		rows(l, 5, func(row []act) { play(t, 9, slices.Concat(before, row)) })
	}
}

// dice is a row of numbers that look as if they came by chance.
type dice uint64

func (d *dice) below(n int) int {
	*d = *d*6364136223846793005 + 1442695040888963407
	return int(uint64(*d) >> 33 % uint64(n))
}

func someEntry(d *dice, key string) api.Entry {
	switch d.below(5) {
	case 0:
		return unwritten(key)
	case 1:
		return gone(key, d.below(6)+1)
	case 2:
		return put(key, api.MaxSeq-d.below(2), "last")
	}
	return put(key, d.below(6)+1, strings.Repeat("v", d.below(4)))
}

func someRing(d *dice) api.Ring {
	var nodes []int
	for n := range 9 {
		if d.below(3) > 0 {
			nodes = append(nodes, n)
		}
	}
	nodes = append(nodes, 9+d.below(5))
	return api.Ring{Nodes: nodes, Each: d.below(4) + 1, Keep: d.below(len(nodes)) + 1}
}

// someAct goes with the operations that the paper has, mostly.
func someAct(d *dice, p *paper) act {
	switch d.below(40) {
	case 0, 1, 2:
		return tickAct()
	case 3:
		return copyAct(d.below(2) == 0)
	case 4:
		return handleAct(newsOf(p.epoch+d.below(3), someRing(d)))
	case 5, 6, 7, 8:
		c := api.Call{ID: d.below(60), Kind: d.below(3) + 1, Key: string(rune('a' + d.below(5)))}
		if c.Kind == api.Put || d.below(20) == 0 {
			c.B = []byte(strings.Repeat("w", d.below(3)))
		}
		return callAct(c)
	}
	if len(p.ops) == 0 {
		return handleAct(toldOf(3, p.epoch, p.begun, put("a", 1, "x"), true, 0))
	}
	o := p.ops[d.below(len(p.ops))]
	m := toMe(api.Told, d.below(14), p.epoch, o.number, someEntry(d, o.call.Key))
	if l := p.keepers(o); len(l) > 0 && d.below(10) > 0 {
		m.From = l[d.below(len(l))]
	}
	switch {
	case o.does == "queries" && d.below(8) > 0:
		m.Flag, m.N = d.below(6) > 0, d.below(9)
	case o.does == "looks" && d.below(3) > 0:
		m.Kind, m.From = api.Found, api.Depot
	case d.below(4) > 0:
		m.Kind = []int{api.Kept, api.NoRoom}[d.below(2)]
	default:
		m.Kind = []int{api.Told, api.Kept, api.NoRoom, api.Found}[d.below(4)]
	}
	return handleAct(wrongly(d, m))
}

// wrongly spoils one of many messages, so that it does nothing.
func wrongly(d *dice, m api.Msg) api.Msg {
	switch d.below(60) {
	case 0:
		m.To = []int{api.Chief, api.Depot, me - 1, me + 1, -me}[d.below(5)]
	case 1:
		m.Kind = d.below(40) - 10
	case 2:
		m.R.Each++
	case 3:
		m.Op = -1 - m.Op
	case 4:
		m.Epoch = max(m.Epoch-1, 0)
	case 5:
		m.Op++
	case 6:
		m.E.Key = "other"
	}
	return m
}

// Long rows, with many operations at once.
func TestLongRows(t *testing.T) {
	d := dice(7)
	for range 300 {
		wait := d.below(30) + 1
		x, p := proxyAt(t, wait), &paper{id: me, wait: wait}
		for range 500 {
			a := someAct(&d, p)
			next, l, all := a.do(x)
			want, wantAll := a.want(p)
			gives(t, a.name, want, wantAll...)(l, all)
			x = next
			p.agrees(t, a.name, x)
			if t.Failed() {
				return
			}
		}
	}
}
