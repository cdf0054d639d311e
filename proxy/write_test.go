package proxy_test

import (
	"testing"

	"icehouse/api"
	"icehouse/proxy"
	"icehouse/quorum"
)

// writing returns a proxy that writes the value v to so many keepers of "k", and these.
func writing(t *testing.T, n int) (*proxy.Proxy, []int) {
	t.Helper()
	var nodes []int
	for i := range n {
		nodes = append(nodes, 20+i)
	}
	r := ringOf(nodes...)
	p := inEpoch(t, 1, r)
	p.Call(putOf(1, "k", "v"))
	for _, k := range nodes[:quorum.Need(n)-1] {
		sends(t, "Told")(p.Handle(toldOf(k, 1, 1, unwritten("k"), true, 0)))
	}
	order := keepersOf(t, r, "k")
	sends(t, "Told", keeps(order, 1, 1, mine("k", 0, 1, some("v")))...)(p.Handle(toldOf(nodes[n-1], 1, 1, unwritten("k"), true, 0)))
	return p, order
}

// Need of n keepers have to keep; one that says so again counts once.
func TestEnoughKept(t *testing.T) {
	for n := 1; n <= 7; n++ {
		p, order := writing(t, n)
		for i := range quorum.Need(n) - 1 {
			for range 3 {
				sends(t, "Kept")(p.Handle(keptOf(order[n-1-i], 1, 1, "k")))
			}
		}
		for _, other := range []int{api.Chief, api.Depot, 19, 20 + n, me} {
			sends(t, "Kept")(p.Handle(keptOf(other, 1, 1, "k")))
		}
		answers(t, "Kept", 1, api.OK, api.Val{})(p.Handle(keptOf(order[0], 1, 1, "k")))
		pends(t, p)
	}
}

// When fewer than Need of n keepers are left that do not lack capacity, it is over.
func TestTooManyLack(t *testing.T) {
	for n := 1; n <= 7; n++ {
		p, order := writing(t, n)
		for i := range n - quorum.Need(n) {
			for range 3 {
				sends(t, "NoRoom")(p.Handle(noRoomOf(order[n-1-i], 1, 1, "k")))
			}
		}
		for _, other := range []int{api.Chief, api.Depot, 19, 20 + n, me} {
			sends(t, "NoRoom")(p.Handle(noRoomOf(other, 1, 1, "k")))
		}
		answers(t, "NoRoom", 1, api.ErrBusy, api.Val{})(p.Handle(noRoomOf(order[0], 1, 1, "k")))
		pends(t, p)
	}
}

// Who has kept does not lack capacity, whatever it says later; who lacked it may keep yet.
func TestKeptAndNoRoom(t *testing.T) {
	p, order := writing(t, 5)
	for _, k := range order[:2] {
		sends(t, "NoRoom")(p.Handle(noRoomOf(k, 1, 1, "k")))
		sends(t, "Kept")(p.Handle(keptOf(k, 1, 1, "k")))
		sends(t, "NoRoom")(p.Handle(noRoomOf(k, 1, 1, "k")))
	}
	for _, k := range order[2:4] {
		sends(t, "NoRoom")(p.Handle(noRoomOf(k, 1, 1, "k")))
	}
	// Two have kept, two lack.
	sends(t, "Tick", keeps(order[2:], 1, 1, mine("k", 0, 1, some("v")))...)(p.Tick())
	c := p.Copy()
	answers(t, "Kept", 1, api.OK, api.Val{})(p.Handle(keptOf(order[3], 1, 1, "k")))
	answers(t, "NoRoom", 1, api.ErrBusy, api.Val{})(c.Handle(noRoomOf(order[4], 1, 1, "k")))
}

// Kept and NoRoom are told apart by their operation, not by their entry: the chapter asks
// for the key only of a Told and of a Found.
func TestKeptOfAnyEntry(t *testing.T) {
	p, order := writing(t, 3)
	sends(t, "Kept")(p.Handle(toMe(api.Kept, order[0], 1, 1, put("other", 5, "x"))))
	c := p.Copy()
	answers(t, "Kept", 1, api.OK, api.Val{})(p.Handle(toMe(api.Kept, order[1], 1, 1, unwritten("other"))))
	sends(t, "NoRoom")(c.Handle(toMe(api.NoRoom, order[1], 1, 1, unwritten("other"))))
	answers(t, "NoRoom", 1, api.ErrBusy, api.Val{})(c.Handle(toMe(api.NoRoom, order[2], 1, 1, unwritten("other"))))
}

// A Get that has to write may be too much, too; its answer has no value then.
func TestGetLacks(t *testing.T) {
	p := queried(t, getOf(1, "k"), put("k", 3, "x"), true)
	p.Handle(toldOf(5, 1, 1, unwritten("k"), true, 0))
	sends(t, "NoRoom")(p.Handle(noRoomOf(5, 1, 1, "k")))
	answers(t, "NoRoom", 1, api.ErrBusy, api.Val{})(p.Handle(noRoomOf(4, 1, 1, "k")))
}

func TestNews(t *testing.T) {
	p := proxyAt(t, 100)
	for _, from := range []int{api.Depot, 2, 3, me} {
		m := newsOf(3, three())
		m.From = from
		sends(t, "News")(p.Handle(m))
	}
	m := newsOf(3, three())
	m.R.Keep = 4
	sends(t, "News")(p.Handle(m))
	m = newsOf(3, three())
	m.To = me + 1
	sends(t, "News")(p.Handle(m))
	if p.Epoch() != 0 {
		t.Errorf("the epoch is %d", p.Epoch())
	}
	for _, epoch := range []int{3, 3, 0, 1, 2, 4, 3, 4, api.MaxSeq, 4, api.MaxSeq, api.MaxSeq - 1} {
		before := p.Epoch()
		m := newsOf(epoch, three())
		m.Op = 77
		sends(t, "News")(p.Handle(m))
		if p.Epoch() != max(before, epoch) {
			t.Errorf("the epoch is %d behind %d and %d", p.Epoch(), before, epoch)
		}
	}
	sends(t, "Call", asks([]int{5, 4, 3}, api.MaxSeq, 1, "k")...)(p.Call(getOf(1, "k")))
}

// In a new epoch each operation begins anew, by rising numbers: what was chosen is
// written, and all else is asked.
func TestNewsInAllPhases(t *testing.T) {
	p := proxyAt(t, 100)
	p.Call(getOf(9, "k"))
	p.Handle(newsOf(1, three()))
	for op := 2; op <= 5; op++ {
		p.Call(putOf(10-op, "k", "v"))
	}
	// 2 queries, 3 looks, 4 writes, and 5 has been answered.
	p.Handle(toldOf(4, 1, 2, put("k", 9, "x"), true, 0))
	for op := 3; op <= 5; op++ {
		p.Handle(toldOf(3, 1, op, put("k", 2, "x"), op > 3, 3))
		p.Handle(toldOf(5, 1, op, put("k", 1, "x"), true, 0))
	}
	p.Handle(keptOf(3, 1, 4, "k"))
	p.Handle(noRoomOf(5, 1, 4, "k"))
	p.Handle(keptOf(3, 1, 5, "k"))
	p.Handle(keptOf(4, 1, 5, "k"))
	pends(t, p, 9, 8, 7, 6)
	e := mine("k", 2, 4, some("v"))
	all := func(to []int, epoch int) []api.Msg {
		out := append(asks(to, epoch, 1, "k"), asks(to, epoch, 2, "k")...)
		return append(append(out, asks(to, epoch, 3, "k")...), keeps(to, epoch, 4, e)...)
	}
	sends(t, "News", all([]int{5, 4, 3}, 2)...)(p.Handle(newsOf(2, three())))
	sends(t, "Tick", all([]int{5, 4, 3}, 2)...)(p.Tick())
	sends(t, "News", all([]int{3, 8}, 5)...)(p.Handle(newsOf(5, ringOf(3, 8))))
	sends(t, "Tick", all([]int{3, 8}, 5)...)(p.Tick())
	sends(t, "News of the same epoch")(p.Handle(newsOf(5, three())))
	// Nothing of an earlier epoch counts.
	sends(t, "Found")(p.Handle(foundOf(1, 3, put("k", 2, "x"))))
	sends(t, "Found")(p.Handle(foundOf(5, 3, put("k", 2, "x"))))
	sends(t, "Kept")(p.Handle(keptOf(8, 2, 4, "k")))
	sends(t, "Kept")(p.Handle(keptOf(8, 5, 4, "k")))
	sends(t, "NoRoom")(p.Handle(noRoomOf(8, 5, 4, "k")))
	answers(t, "Kept", 6, api.OK, api.Val{})(p.Handle(keptOf(3, 5, 4, "k")))
	sends(t, "Told")(p.Handle(toldOf(8, 5, 2, put("k", 1, "y"), true, 0)))
	answers(t, "Told", 9, api.OK, some("z"))(tellBoth(t, p, 1, put("k", 3, "z")))
	pends(t, p, 8, 7)
}

// tellBoth has 8 and 3 tell the same.
func tellBoth(t *testing.T, p *proxy.Proxy, op int, e api.Entry) ([]api.Msg, []api.Answer) {
	t.Helper()
	sends(t, "Told")(p.Handle(toldOf(8, 5, op, e, true, 0)))
	return p.Handle(toldOf(3, 5, op, e, true, 0))
}

// A Look of an earlier epoch is forgotten: the operation decides by the replies alone.
func TestNewsWhileItLooks(t *testing.T) {
	p := queried(t, getOf(1, "k"), put("k", 9, "x"), false)
	sends(t, "Told", lookOf(1, 1, "k")...)(p.Handle(toldOf(5, 1, 1, put("k", 1, "x"), true, 0)))
	sends(t, "News", asks([]int{3}, 2, 1, "k")...)(p.Handle(newsOf(2, ringOf(3))))
	answers(t, "Told", 1, api.OK, some("y"))(p.Handle(toldOf(3, 2, 1, put("k", 3, "y"), true, 0)))
}

// Whoever has not answered is sent the same again, in the order of the keepers, and all
// operations are gone through by rising numbers.
func TestTick(t *testing.T) {
	p := inEpoch(t, 1, three())
	p.Call(putOf(3, "k", "v"))
	p.Call(getOf(2, "a"))
	p.Call(deleteOf(1, "k"))
	sends(t, "Tick", append(append(asks([]int{5, 4, 3}, 1, 1, "k"), asks([]int{4, 3, 5}, 1, 2, "a")...), asks([]int{5, 4, 3}, 1, 3, "k")...)...)(p.Tick())
	p.Handle(toldOf(4, 1, 1, unwritten("k"), true, 0))
	p.Handle(toldOf(4, 1, 2, unwritten("a"), false, 0))
	p.Handle(toldOf(4, 1, 3, gone("k", 4), true, 0))
	sends(t, "Tick", append(append(asks([]int{5, 3}, 1, 1, "k"), asks([]int{3, 5}, 1, 2, "a")...), asks([]int{5, 3}, 1, 3, "k")...)...)(p.Tick())
	p.Handle(toldOf(5, 1, 2, unwritten("a"), true, 0))
	p.Handle(toldOf(5, 1, 3, unwritten("k"), true, 0))
	e := mine("k", 4, 3, api.Val{})
	sends(t, "Tick", append(append(asks([]int{5, 3}, 1, 1, "k"), lookOf(1, 2, "a")...), keeps([]int{5, 4, 3}, 1, 3, e)...)...)(p.Tick())
	p.Handle(keptOf(4, 1, 3, "k"))
	p.Handle(noRoomOf(3, 1, 3, "k"))
	sends(t, "Tick", append(append(asks([]int{5, 3}, 1, 1, "k"), lookOf(1, 2, "a")...), keeps([]int{5, 3}, 1, 3, e)...)...)(p.Tick())
	pends(t, p, 3, 2, 1)
}

// An operation is given up at the tick with the number wait behind its call, in whatever
// phase; those behind it go on.
func TestTime(t *testing.T) {
	for wait := 1; wait <= 5; wait++ {
		p := proxyAt(t, wait)
		p.Handle(newsOf(1, three()))
		ids := []int{}
		for tick := range 12 {
			c := []api.Call{getOf(tick, "k"), putOf(tick, "k", "v"), deleteOf(tick, "k")}[tick%3]
			sends(t, "Call", asks([]int{5, 4, 3}, 1, tick+1, "k")...)(p.Call(c))
			if ids = append(ids, tick); tick%2 == 0 {
				p.Handle(toldOf(5, 1, tick+1, put("k", 1, "x"), true, 0))
				p.Handle(toldOf(4, 1, tick+1, put("k", 2, "x"), tick%4 == 0, 0))
			}
			l, a := p.Tick()
			var want []api.Answer
			if tick+1 >= wait {
				want, ids = []api.Answer{{ID: ids[0], E: api.ErrTime}}, ids[1:]
			}
			if !sameAnswers(a, want) {
				t.Errorf("wait %d, tick %d: %v, not %v", wait, tick, a, want)
			}
			for _, m := range l {
				if m.Op <= tick+2-wait {
					t.Errorf("wait %d, tick %d: %v of what was given up", wait, tick, m)
				}
			}
			pends(t, p, ids...)
		}
	}
}

// Several are given up at once, by rising numbers.
func TestTimeOfSeveral(t *testing.T) {
	p := proxyAt(t, 2)
	for _, id := range []int{5, 9, 1, 7} {
		p.Call(getOf(id, "k"))
	}
	sends(t, "Tick")(p.Tick())
	p.Handle(newsOf(1, ringOf(3)))
	p.Call(getOf(0, "k"))
	want := []api.Answer{{ID: 5, E: api.ErrTime}, {ID: 9, E: api.ErrTime}, {ID: 1, E: api.ErrTime}, {ID: 7, E: api.ErrTime}}
	gives(t, "Tick", asks([]int{3}, 1, 5, "k"), want...)(p.Tick())
	pends(t, p, 0)
}
