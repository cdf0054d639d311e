package proxy_test

import (
	"math"
	"strings"
	"testing"

	"icehouse/api"
	"icehouse/proxy"
)

// three keeps "k" by 5, 4 and 3, and "a" by 4, 3 and 5, in this order.
func three() api.Ring { return ringOf(3, 4, 5) }

func TestNew(t *testing.T) {
	for _, id := range []int{2, 3, me, api.MaxID - 1, api.MaxID} {
		for _, wait := range []int{1, 2, api.MaxWait - 1, api.MaxWait} {
			p, e := proxy.New(id, wait)
			if p == nil || e != api.OK {
				t.Fatalf("New(%d, %d): error %d", id, wait, e)
			}
			if p.Epoch() != 0 {
				t.Errorf("a new proxy is in epoch %d", p.Epoch())
			}
			pends(t, p)
			sends(t, "Tick")(p.Tick())
			sends(t, "Call")(p.Call(getOf(0, "k")))
		}
	}
}

func TestNewOfWrongNumbers(t *testing.T) {
	for _, c := range [][2]int{
		{api.Chief, 4}, {api.Depot, 4}, {-1, 4}, {-2, 4}, {api.MaxID + 1, 4}, {math.MinInt, 4}, {math.MaxInt, 4},
		{me, 0}, {me, -1}, {me, api.MaxWait + 1}, {me, math.MinInt}, {me, math.MaxInt}, {0, 0}, {4, api.MaxID}, {math.MaxInt, math.MinInt},
	} {
		if p, e := proxy.New(c[0], c[1]); p != nil || e != api.ErrArg {
			t.Errorf("New(%d, %d): %v, error %d", c[0], c[1], p, e)
		}
	}
}

// The example of the chapter.
func TestOneNode(t *testing.T) {
	p := proxyAt(t, 4)
	sends(t, "Call")(p.Call(getOf(1, "k")))
	sends(t, "News", asks([]int{3}, 1, 1, "k")...)(p.Handle(newsOf(1, ringOf(3))))
	answers(t, "Told", 1, api.OK, api.Val{})(p.Handle(toldOf(3, 1, 1, unwritten("k"), true, 0)))
	pends(t, p)
}

func TestCallOfWrongCalls(t *testing.T) {
	p := inEpoch(t, 1, three())
	sends(t, "Call", asks([]int{5, 4, 3}, 1, 1, "k")...)(p.Call(putOf(4, "k", "v")))
	for _, c := range []api.Call{
		{ID: 1, Kind: 0, Key: "k"}, {ID: 1, Kind: 4, Key: "k"}, {ID: 1, Kind: -1, Key: "k"}, {ID: 1, Kind: math.MinInt, Key: "k"}, {ID: 1, Kind: math.MaxInt, Key: "k"},
		getOf(1, ""), putOf(1, "", "v"), deleteOf(1, ""),
		getOf(1, strings.Repeat("k", api.MaxKey+1)), putOf(1, strings.Repeat("k", 1<<16), "v"),
		putOf(1, "k", strings.Repeat("v", api.MaxVal+1)), putOf(1, "k", strings.Repeat("v", 1<<20)),
		{ID: 1, Kind: api.Get, Key: "k", B: []byte{0}}, {ID: 1, Kind: api.Delete, Key: "k", B: []byte{0}}, {ID: 1, Kind: api.Get, Key: "k", B: make([]byte, api.MaxVal+1)},
		getOf(-1, "k"), putOf(math.MinInt, "k", "v"), getOf(api.MaxSeq+1, "k"), deleteOf(math.MaxInt, "k"),
		getOf(4, "k"), getOf(4, "a"), putOf(4, "k", "v"), deleteOf(4, "k"),
		{}, {ID: -4, Kind: 9, B: []byte{1}},
	} {
		answers(t, "Call", c.ID, api.ErrArg, api.Val{})(p.Call(c))
		pends(t, p, 4)
	}
	// None of these had a number.
	sends(t, "Call", asks([]int{4, 3, 5}, 1, 2, "a")...)(p.Call(getOf(5, "a")))
	pends(t, p, 4, 5)
}

func TestCallOfEdges(t *testing.T) {
	longKey, longVal := strings.Repeat("k", api.MaxKey), strings.Repeat("v", api.MaxVal)
	p := inEpoch(t, 1, ringOf(3))
	for i, c := range []api.Call{
		getOf(0, "k"), getOf(api.MaxSeq, "k"), putOf(1, longKey, longVal), putOf(2, "\x00", ""), putOf(3, "\xff", "\x00"), deleteOf(4, longKey),
		{ID: 5, Kind: api.Get, Key: "k", B: []byte{}}, {ID: 6, Kind: api.Delete, Key: "k", B: []byte{}}, {ID: 7, Kind: api.Put, Key: "k"},
	} {
		sends(t, "Call", asks([]int{3}, 1, i+1, c.Key)...)(p.Call(c))
	}
	pends(t, p, 0, api.MaxSeq, 1, 2, 3, 4, 5, 6, 7)
	told := func(op int, key string) ([]api.Msg, []api.Answer) {
		return p.Handle(toldOf(3, 1, op, unwritten(key), true, 0))
	}
	sends(t, "Told", keeps([]int{3}, 1, 3, mine(longKey, 0, 3, some(longVal)))...)(told(3, longKey))
	sends(t, "Told", keeps([]int{3}, 1, 4, mine("\x00", 0, 4, some("")))...)(told(4, "\x00"))
	sends(t, "Told", keeps([]int{3}, 1, 6, mine(longKey, 0, 6, api.Val{}))...)(told(6, longKey))
	sends(t, "Told", keeps([]int{3}, 1, 8, mine("k", 0, 8, api.Val{}))...)(told(8, "k"))
	sends(t, "Told", keeps([]int{3}, 1, 9, mine("k", 0, 9, some("")))...)(told(9, "k"))
}

// An ID is free again when it has been answered, however that was.
func TestCallOfTheSameID(t *testing.T) {
	p := proxyAt(t, 3)
	p.Handle(newsOf(1, ringOf(3)))
	sends(t, "Call", asks([]int{3}, 1, 1, "k")...)(p.Call(getOf(7, "k")))
	answers(t, "Told", 7, api.OK, some("x"))(p.Handle(toldOf(3, 1, 1, put("k", 1, "x"), true, 0)))
	sends(t, "Call", asks([]int{3}, 1, 2, "k")...)(p.Call(putOf(7, "k", "v")))
	answers(t, "Told", 7, api.ErrLong, api.Val{})(p.Handle(toldOf(3, 1, 2, put("k", api.MaxSeq, "x"), true, 0)))
	sends(t, "Call", asks([]int{3}, 1, 3, "k")...)(p.Call(putOf(7, "k", "v")))
	p.Handle(toldOf(3, 1, 3, unwritten("k"), true, 0))
	answers(t, "NoRoom", 7, api.ErrBusy, api.Val{})(p.Handle(noRoomOf(3, 1, 3, "k")))
	sends(t, "Call", asks([]int{3}, 1, 4, "k")...)(p.Call(getOf(7, "k")))
	p.Tick()
	p.Tick()
	answers(t, "Tick", 7, api.ErrTime, api.Val{})(p.Tick())
	sends(t, "Call", asks([]int{3}, 1, 5, "k")...)(p.Call(getOf(7, "k")))
	answers(t, "Call", 7, api.ErrArg, api.Val{})(p.Call(getOf(7, "k")))
	pends(t, p, 7)
}

// Without a ring calls wait for one, and are given up as ever.
func TestWithoutRing(t *testing.T) {
	p := proxyAt(t, 3)
	sends(t, "Call")(p.Call(getOf(5, "k")))
	sends(t, "Tick")(p.Tick())
	sends(t, "Call")(p.Call(putOf(4, "a", "v")))
	for _, kind := range []int{api.Told, api.Found, api.Kept, api.NoRoom} {
		sends(t, "Handle")(p.Handle(toMe(kind, api.Depot, 0, 1, unwritten("k"))))
	}
	sends(t, "News of epoch 0")(p.Handle(newsOf(0, three())))
	sends(t, "Tick")(p.Tick())
	pends(t, p, 5, 4)
	answers(t, "Tick", 5, api.ErrTime, api.Val{})(p.Tick())
	pends(t, p, 4)
	sends(t, "News", asks([]int{4, 3, 5}, 2, 2, "a")...)(p.Handle(newsOf(2, three())))
	// A ring makes no operation younger.
	answers(t, "Tick", 4, api.ErrTime, api.Val{})(p.Tick())
	pends(t, p)
}

// Each key is queried at its own keepers, in their order.
func TestKeepers(t *testing.T) {
	r := api.Ring{Nodes: []int{3, 4, 5, 6, 7}, Each: 1, Keep: 3}
	p := inEpoch(t, 1, r)
	sends(t, "Call", asks([]int{5, 7, 4}, 1, 1, "k")...)(p.Call(getOf(1, "k")))
	sends(t, "Call", asks([]int{7, 4, 6}, 1, 2, "a")...)(p.Call(getOf(2, "a")))
	sends(t, "Told")(p.Handle(toldOf(3, 1, 1, put("k", 3, "x"), true, 0)))
	sends(t, "Told")(p.Handle(toldOf(6, 1, 1, put("k", 3, "x"), true, 0)))
	sends(t, "Told")(p.Handle(toldOf(4, 1, 1, put("k", 3, "x"), true, 0)))
	answers(t, "Told", 1, api.OK, some("x"))(p.Handle(toldOf(7, 1, 1, put("k", 3, "x"), true, 0)))
}

// The chief, the depot and the proxy itself may be nodes of a ring, too.
func TestOddKeepers(t *testing.T) {
	p := inEpoch(t, 1, ringOf(api.Chief, api.Depot, me))
	sends(t, "Call", asks([]int{me, 0, 1}, 1, 1, "k")...)(p.Call(getOf(1, "k")))
	sends(t, "Told")(p.Handle(toldOf(api.Depot, 1, 1, put("k", 1, "x"), false, 8)))
	sends(t, "Told", lookOf(1, 1, "k")...)(p.Handle(toldOf(me, 1, 1, put("k", 1, "x"), false, 9)))
	x := put("k", 2, "y")
	want := append([]api.Msg{fillOf(me, 1, 1, x, 9), fillOf(api.Depot, 1, 1, x, 8)}, keeps([]int{me, 0, 1}, 1, 1, x)...)
	sends(t, "Found", want...)(p.Handle(foundOf(1, 1, x)))
	sends(t, "Kept")(p.Handle(keptOf(api.Chief, 1, 1, "k")))
	answers(t, "Kept", 1, api.OK, some("y"))(p.Handle(keptOf(me, 1, 1, "k")))
}

// What may not be, or is for another one, does nothing; nor do the kinds that a proxy does
// not know.
func TestHandleOfWrongMessages(t *testing.T) {
	p := inEpoch(t, 2, ringOf(3))
	p.Call(putOf(1, "k", "v"))
	right := toldOf(3, 2, 1, put("k", 1, "x"), true, 0)
	for name, change := range map[string]func(m *api.Msg){
		"to another one":     func(m *api.Msg) { m.To = me + 1 },
		"to the chief":       func(m *api.Msg) { m.To = api.Chief },
		"to nobody":          func(m *api.Msg) { m.To = -me },
		"with a ring":        func(m *api.Msg) { m.R = ringOf(3) },
		"with a list":        func(m *api.Msg) { m.L = []api.Entry{put("k", 1, "x")} },
		"with a wrong entry": func(m *api.Msg) { m.E.Tag = api.Tag{Who: 1} },
		"without a key":      func(m *api.Msg) { m.E.Key = "" },
		"of a wrong token":   func(m *api.Msg) { m.N = -1 },
		"of no kind":         func(m *api.Msg) { m.Kind = 18 },
		"of a wrong epoch":   func(m *api.Msg) { m.Epoch = -2 },
		"of another epoch":   func(m *api.Msg) { m.Epoch = 1 },
		"of a later epoch":   func(m *api.Msg) { m.Epoch = 3 },
		"of no operation":    func(m *api.Msg) { m.Op = 0 },
		"of another one":     func(m *api.Msg) { m.Op = 2 },
		"of a wrong one":     func(m *api.Msg) { m.Op = -1 },
		"of another key":     func(m *api.Msg) { m.E.Key = "a" },
		"from no keeper":     func(m *api.Msg) { m.From = 4 },
		"from the depot":     func(m *api.Msg) { m.From = api.Depot },
	} {
		m := right
		change(&m)
		sends(t, name)(p.Handle(m))
	}
	for kind := range 25 {
		if kind == api.Told {
			continue
		}
		for _, from := range []int{api.Chief, api.Depot, 3, me} {
			sends(t, "another kind")(p.Handle(toMe(kind, from, 2, 1, unwritten("k"))))
			sends(t, "another kind")(p.Handle(api.Msg{Kind: kind, From: from, To: me, Epoch: 2, Op: 1}))
		}
	}
	pends(t, p, 1)
	sends(t, "Told", keeps([]int{3}, 2, 1, mine("k", 1, 1, some("v")))...)(p.Handle(right))
}

// Where a message comes too early or too late in its operation it does nothing.
func TestHandleInOtherPhases(t *testing.T) {
	p := inEpoch(t, 1, three())
	told := func(from int) ([]api.Msg, []api.Answer) {
		return p.Handle(toldOf(from, 1, 1, put("k", 4, "x"), false, 0))
	}
	found := func() ([]api.Msg, []api.Answer) { return p.Handle(foundOf(1, 1, put("k", 5, "y"))) }
	kept := func(from int) ([]api.Msg, []api.Answer) { return p.Handle(keptOf(from, 1, 1, "k")) }
	noRoom := func(from int) ([]api.Msg, []api.Answer) { return p.Handle(noRoomOf(from, 1, 1, "k")) }
	early := func(name string) {
		for _, k := range []int{3, 4, 5} {
			sends(t, name)(kept(k))
			sends(t, name)(noRoom(k))
		}
	}
	p.Call(putOf(1, "k", "v"))
	sends(t, "Found while it queries")(found())
	early("Kept while it queries")
	sends(t, "Told")(told(3))
	sends(t, "Told again")(told(3))
	sends(t, "Told", lookOf(1, 1, "k")...)(told(4))
	early("Kept while it looks")
	sends(t, "Told while it looks")(told(5))
	e := mine("k", 5, 1, some("v"))
	sends(t, "Found", append([]api.Msg{fillOf(4, 1, 1, put("k", 5, "y"), 0), fillOf(3, 1, 1, put("k", 5, "y"), 0)}, keeps([]int{5, 4, 3}, 1, 1, e)...)...)(found())
	sends(t, "Told while it writes")(told(5))
	sends(t, "Found while it writes")(found())
	sends(t, "Kept")(kept(3))
	answers(t, "Kept", 1, api.OK, api.Val{})(kept(5))
	sends(t, "Kept of what is answered")(kept(4))
	sends(t, "Told of what is answered")(told(5))
}

// A proxy that isn't there, or that New hasn't made, does nothing.
func TestNoProxy(t *testing.T) {
	var none *proxy.Proxy
	for _, p := range []*proxy.Proxy{none, {}} {
		sends(t, "Call")(p.Call(getOf(1, "k")))
		sends(t, "Call")(p.Call(api.Call{}))
		sends(t, "Handle")(p.Handle(newsOf(1, three())))
		sends(t, "Handle")(p.Handle(api.Msg{Kind: api.News, Epoch: 1, R: three()}))
		sends(t, "Handle")(p.Handle(api.Msg{}))
		sends(t, "Tick")(p.Tick())
		pends(t, p)
		if p.Epoch() != 0 {
			t.Errorf("the epoch is %d", p.Epoch())
		}
	}
	if none.Copy() != nil {
		t.Error("there is a copy of nil")
	}
	sends(t, "Tick of a copy")((&proxy.Proxy{}).Copy().Tick())
}
