package proxy_test

import (
	"testing"

	"icehouse/api"
	"icehouse/proxy"
	"icehouse/quorum"
)

// Of n keepers Need of n replies are enough, if all of them are whole.
func TestEnoughReplies(t *testing.T) {
	for n := 1; n <= 7; n++ {
		var nodes []int
		for i := range n {
			nodes = append(nodes, 20+i)
		}
		r := ringOf(nodes...)
		p := inEpoch(t, 1, r)
		order := keepersOf(t, r, "k")
		sends(t, "Call", asks(order, 1, 1, "k")...)(p.Call(getOf(1, "k")))
		for i := range quorum.Need(n) - 1 {
			sends(t, "Told")(p.Handle(toldOf(order[n-1-i], 1, 1, put("k", 3, "x"), true, 0)))
		}
		answers(t, "Told", 1, api.OK, some("x"))(p.Handle(toldOf(order[0], 1, 1, put("k", 3, "x"), true, 0)))
	}
}

// One reply that isn't whole is enough for a Look, whichever it is.
func TestLook(t *testing.T) {
	for flags := range 4 {
		p := inEpoch(t, 1, three())
		p.Call(getOf(1, "k"))
		sends(t, "Told")(p.Handle(toldOf(3, 1, 1, put("k", 3, "x"), flags&1 > 0, 1)))
		m := toldOf(4, 1, 1, put("k", 3, "x"), flags&2 > 0, 2)
		if flags == 3 {
			answers(t, "Told", 1, api.OK, some("x"))(p.Handle(m))
			continue
		}
		sends(t, "Told", lookOf(1, 1, "k")...)(p.Handle(m))
		for range 3 {
			sends(t, "Tick", lookOf(1, 1, "k")...)(p.Tick())
		}
		var want []api.Msg
		if flags&2 == 0 {
			want = append(want, fillOf(4, 1, 1, put("k", 2, "w"), 2))
		}
		if flags&1 == 0 {
			want = append(want, fillOf(3, 1, 1, put("k", 2, "w"), 1))
		}
		gives(t, "Found", want, api.Answer{ID: 1, Val: some("x")})(p.Handle(foundOf(1, 1, put("k", 2, "w"))))
		pends(t, p)
	}
}

// A Found is of the depot, and of the key.
func TestFoundOfOthers(t *testing.T) {
	p := inEpoch(t, 1, three())
	p.Call(getOf(1, "k"))
	p.Handle(toldOf(3, 1, 1, put("k", 3, "x"), false, 1))
	p.Handle(toldOf(4, 1, 1, put("k", 3, "x"), true, 0))
	for _, from := range []int{api.Chief, 3, 5, me} {
		m := foundOf(1, 1, put("k", 3, "x"))
		m.From = from
		sends(t, "Found")(p.Handle(m))
	}
	sends(t, "Found")(p.Handle(foundOf(1, 1, put("a", 3, "x"))))
	sends(t, "Tick", lookOf(1, 1, "k")...)(p.Tick())
	gives(t, "Found", []api.Msg{fillOf(3, 1, 1, unwritten("k"), 1)}, api.Answer{ID: 1, Val: some("x")})(p.Handle(foundOf(1, 1, unwritten("k"))))
}

// queried brings a call so far that the second of two replies is all that is missing.
// first is of 3, the last of the keepers, and second of 5, the first one.
func queried(t *testing.T, c api.Call, first api.Entry, whole bool) *proxy.Proxy {
	t.Helper()
	p := inEpoch(t, 1, three())
	sends(t, "Call", asks([]int{5, 4, 3}, 1, 1, "k")...)(p.Call(c))
	sends(t, "Told")(p.Handle(toldOf(3, 1, 1, first, whole, 7)))
	return p
}

// A Get that is told of different tags writes the greatest one, whoever has it, also where
// nothing is its value; and answers when it is kept.
func TestGetOfDifferentReplies(t *testing.T) {
	for _, c := range []struct{ first, second, best api.Entry }{
		{put("k", 3, "x"), put("k", 2, "y"), put("k", 3, "x")},
		{put("k", 2, "x"), put("k", 3, "y"), put("k", 3, "y")},
		{unwritten("k"), put("k", 1, "y"), put("k", 1, "y")},
		{gone("k", 4), put("k", 3, "y"), gone("k", 4)},
		{gone("k", 4), gone("k", 5), gone("k", 5)},
		{put("k", 4, ""), unwritten("k"), put("k", 4, "")},
		{api.Entry{Key: "k", Tag: api.Tag{Seq: 1, Who: 5, Op: 1}, Val: some("x")}, api.Entry{Key: "k", Tag: api.Tag{Seq: 1, Who: 4, Op: 9}, Val: some("y")}, api.Entry{Key: "k", Tag: api.Tag{Seq: 1, Who: 5, Op: 1}, Val: some("x")}},
		{api.Entry{Key: "k", Tag: api.Tag{Seq: 1, Who: 5, Op: 1}, Val: some("x")}, api.Entry{Key: "k", Tag: api.Tag{Seq: 1, Who: 5, Op: 2}, Val: some("y")}, api.Entry{Key: "k", Tag: api.Tag{Seq: 1, Who: 5, Op: 2}, Val: some("y")}},
	} {
		p := queried(t, getOf(1, "k"), c.first, true)
		sends(t, "Told", keeps([]int{5, 4, 3}, 1, 1, c.best)...)(p.Handle(toldOf(5, 1, 1, c.second, true, 0)))
		sends(t, "Kept")(p.Handle(keptOf(4, 1, 1, "k")))
		answers(t, "Kept", 1, api.OK, c.best.Val)(p.Handle(keptOf(3, 1, 1, "k")))
	}
}

// Where the tags are equal the first of the keepers has the say, even if values differ.
func TestGetOfTheSameTag(t *testing.T) {
	for _, c := range []struct{ first, second api.Entry }{
		{put("k", 3, "x"), put("k", 3, "y")},
		{gone("k", 3), put("k", 3, "y")},
		{put("k", 3, "x"), gone("k", 3)},
		{unwritten("k"), unwritten("k")},
		{put("k", api.MaxSeq, ""), put("k", api.MaxSeq, "")},
	} {
		p := queried(t, getOf(1, "k"), c.first, true)
		answers(t, "Told", 1, api.OK, c.second.Val)(p.Handle(toldOf(5, 1, 1, c.second, true, 0)))
		p = queried(t, getOf(1, "k"), c.first, false)
		sends(t, "Told", lookOf(1, 1, "k")...)(p.Handle(toldOf(5, 1, 1, c.second, true, 0)))
		found := c.first
		fill := []api.Msg{fillOf(3, 1, 1, found, 7)}
		gives(t, "Found", fill, api.Answer{ID: 1, Val: c.second.Val})(p.Handle(foundOf(1, 1, found)))
	}
}

// What was found counts as much as what was told.
func TestGetOfFound(t *testing.T) {
	for _, c := range []struct{ first, second, found, best api.Entry }{
		{put("k", 3, "x"), put("k", 3, "x"), put("k", 4, "z"), put("k", 4, "z")},
		{put("k", 3, "x"), put("k", 3, "x"), gone("k", 4), gone("k", 4)},
		{unwritten("k"), unwritten("k"), put("k", 1, "z"), put("k", 1, "z")},
		{put("k", 3, "x"), put("k", 2, "y"), put("k", 1, "z"), put("k", 3, "x")},
		{put("k", 2, "x"), put("k", 3, "y"), put("k", 3, "z"), put("k", 3, "y")},
		{put("k", 2, "x"), put("k", 1, "y"), put("k", 2, "z"), put("k", 2, "x")},
	} {
		p := queried(t, getOf(1, "k"), c.first, false)
		sends(t, "Told", lookOf(1, 1, "k")...)(p.Handle(toldOf(5, 1, 1, c.second, false, 8)))
		want := append([]api.Msg{fillOf(5, 1, 1, c.found, 8), fillOf(3, 1, 1, c.found, 7)}, keeps([]int{5, 4, 3}, 1, 1, c.best)...)
		sends(t, "Found", want...)(p.Handle(foundOf(1, 1, c.found)))
		sends(t, "Kept")(p.Handle(keptOf(5, 1, 1, "k")))
		answers(t, "Kept", 1, api.OK, c.best.Val)(p.Handle(keptOf(4, 1, 1, "k")))
	}
}

// A Put and a Delete write upon the best, wherever that is, even if all have the same one;
// their answers have no value.
func TestWritesUponTheBest(t *testing.T) {
	for _, c := range []struct {
		first, second, found api.Entry
		seq                  int
	}{
		{unwritten("k"), unwritten("k"), unwritten("k"), 0},
		{put("k", 3, "x"), put("k", 3, "x"), put("k", 3, "x"), 3},
		{put("k", 5, "x"), put("k", 3, "x"), put("k", 4, "x"), 5},
		{put("k", 3, "x"), gone("k", 5), put("k", 4, "x"), 5},
		{put("k", 3, "x"), put("k", 4, "x"), put("k", 5, "x"), 5},
		{put("k", 3, "x"), put("k", 4, "x"), put("k", api.MaxSeq-1, "x"), api.MaxSeq - 1},
	} {
		for _, call := range []api.Call{putOf(1, "k", "v"), putOf(1, "k", ""), deleteOf(1, "k")} {
			e := mine("k", c.seq, 1, api.Val{Has: call.Kind == api.Put, B: call.B})
			p := queried(t, call, c.first, false)
			sends(t, "Told", lookOf(1, 1, "k")...)(p.Handle(toldOf(5, 1, 1, c.second, true, 0)))
			sends(t, "Found", append([]api.Msg{fillOf(3, 1, 1, c.found, 7)}, keeps([]int{5, 4, 3}, 1, 1, e)...)...)(p.Handle(foundOf(1, 1, c.found)))
			sends(t, "Kept")(p.Handle(keptOf(5, 1, 1, "k")))
			answers(t, "Kept", 1, api.OK, api.Val{})(p.Handle(keptOf(3, 1, 1, "k")))
		}
	}
}

// No tag follows the greatest one: the error of tags.Next is the answer.
func TestWritesUponTheGreatestTag(t *testing.T) {
	last := put("k", api.MaxSeq, "x")
	for _, call := range []api.Call{putOf(1, "k", "v"), deleteOf(1, "k")} {
		p := queried(t, call, last, true)
		answers(t, "Told", 1, api.ErrLong, api.Val{})(p.Handle(toldOf(5, 1, 1, unwritten("k"), true, 0)))
		pends(t, p)
		p = queried(t, call, unwritten("k"), true)
		sends(t, "Told", lookOf(1, 1, "k")...)(p.Handle(toldOf(5, 1, 1, unwritten("k"), false, 2)))
		gives(t, "Found", []api.Msg{fillOf(5, 1, 1, last, 2)}, api.Answer{ID: 1, E: api.ErrLong})(p.Handle(foundOf(1, 1, last)))
		pends(t, p)
	}
}

// The number of the operation is that of the call among all, and so is that of its tag.
func TestNumbers(t *testing.T) {
	p := inEpoch(t, 1, ringOf(3))
	for op := 1; op <= 20; op++ {
		sends(t, "Call", asks([]int{3}, 1, op, "k")...)(p.Call(putOf(100-op, "k", "v")))
	}
	for op := 20; op > 0; op-- {
		sends(t, "Told", keeps([]int{3}, 1, op, mine("k", 6, op, some("v")))...)(p.Handle(toldOf(3, 1, op, put("k", 6, "x"), true, 0)))
		if op%2 == 0 {
			answers(t, "Kept", 100-op, api.OK, api.Val{})(p.Handle(keptOf(3, 1, op, "k")))
		}
	}
	pends(t, p, 99, 97, 95, 93, 91, 89, 87, 85, 83, 81)
}
