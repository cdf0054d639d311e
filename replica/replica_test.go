package replica_test

import (
	"math"
	"slices"
	"strings"
	"testing"

	"icehouse/api"
	"icehouse/replica"
)

func TestNew(t *testing.T) {
	for _, p := range []api.Place{
		{ID: 2, Room: api.Room{Cells: 1, Bytes: 1, Buckets: 1}, Batch: 1, Chunk: 1},
		{ID: api.MaxID, Room: api.Room{Cells: 4096, Bytes: 1 << 22, Buckets: 256}, Batch: 64, Chunk: 64},
		{ID: 7, Room: api.Room{Cells: 3, Bytes: 9, Buckets: 3, Fresh: true}, Batch: 1, Chunk: 64},
		{ID: 7, Room: api.Room{Cells: 3, Bytes: 9, Buckets: 3}, Batch: 64, Chunk: 1},
	} {
		n := nodeAt(t, p)
		stands(t, n, api.Apart, 0)
		token := 1
		if p.Room.Fresh {
			token = 0
		}
		marked(t, n, "", slices.Repeat([]int{token}, p.Room.Buckets)...)
		if got := n.Tick(); !sameMsgs(got, []api.Msg{{Kind: api.Beat, From: p.ID, To: api.Chief}}) {
			t.Errorf("Tick: %v", got)
		}
	}
}

func TestNewOfWrongPlaces(t *testing.T) {
	right := placeOf(3, 99, 2, 2)
	for _, change := range []func(p *api.Place, n int){
		func(p *api.Place, n int) { p.ID = n },
		func(p *api.Place, n int) { p.Batch = n },
		func(p *api.Place, n int) { p.Chunk = n },
		func(p *api.Place, n int) { p.Room.Cells = n },
		func(p *api.Place, n int) { p.Room.Bytes = n },
		func(p *api.Place, n int) { p.Room.Buckets = n },
		func(p *api.Place, n int) { *p = api.Place{ID: n, Batch: n, Chunk: n} },
	} {
		for _, n := range []int{0, -1, math.MinInt, math.MaxInt, 1 << 23} {
			p := right
			change(&p, n)
			refused(t, p)
		}
	}
	for _, change := range []func(p *api.Place){
		func(p *api.Place) { p.ID = api.Chief },
		func(p *api.Place) { p.ID = api.Depot },
		func(p *api.Place) { p.ID = -2 },
		func(p *api.Place) { p.ID = api.MaxID + 1 },
		func(p *api.Place) { p.Batch = api.MaxBatch + 1 },
		func(p *api.Place) { p.Chunk = api.MaxBatch + 1 },
		func(p *api.Place) { p.Room.Cells = api.MaxCells + 1 },
		func(p *api.Place) { p.Room.Bytes = api.MaxDisk + 1 },
		func(p *api.Place) { p.Room.Buckets = api.MaxBuckets + 1 },
		func(p *api.Place) { *p = api.Place{} },
	} {
		p := right
		change(&p)
		refused(t, p)
	}
}

func refused(t *testing.T, p api.Place) {
	t.Helper()
	if n, e := replica.New(p); n != nil || e != api.ErrArg {
		t.Errorf("New(%v): %v, error %d", p, n, e)
	}
}

// The example of the chapter.
func TestFirstEpoch(t *testing.T) {
	n := nodeAt(t, placeOf(3, 99, 2, 2))
	m := askOf(0, "k")
	handles(t, n, m, otherOf(m, 0))
	m = installOf(3, 0, 0, true)
	handles(t, n, m, readyOf(m))
	stands(t, n, api.Active, 3)
	m = askOf(3, "k")
	handles(t, n, m, toldOf(m, unwritten("k"), false, 1))
}

// The seventh example of the whole: with one cell that the store does not have there is
// no room for another key.
func TestOneCell(t *testing.T) {
	n := active(t, placeOf(1, 99, 1, 1), 1)
	k, j := keepOf(1, put("k", 1, "v")), keepOf(1, put("j", 1, "v"))
	handles(t, n, k, keptOf(k))
	handles(t, n, j, noRoomOf(j))
	holds(t, n, k.E)
	handles(t, n, flushedOf(k.E))
	handles(t, n, j, keptOf(j))
	holds(t, n, j.E)
}

func TestAsk(t *testing.T) {
	n := active(t, placeOf(9, 99, 2, 2), 4, put("a", 3, "one"), gone("b", 2))
	for key, e := range map[string]api.Entry{"a": put("a", 3, "one"), "b": gone("b", 2), "c": unwritten("c"), "\xff\x00": unwritten("\xff\x00"), strings.Repeat("k", 250): unwritten(strings.Repeat("k", 250))} {
		m := askOf(4, key)
		handles(t, n, m, toldOf(m, e, false, 1))
	}
	f := fillOf(4, put("a", 1, "older"), 1)
	handles(t, n, f)
	m := askOf(4, "a")
	handles(t, n, m, toldOf(m, put("a", 3, "one"), true, 1))
}

// An Ask is answered by its key alone, and to whom it is from.
func TestAskOfAll(t *testing.T) {
	n := active(t, placeOf(9, 99, 2, 2), 4, put("a", 3, "one"))
	for _, from := range []int{api.Chief, api.Depot, 2, node, api.MaxID} {
		for _, op := range []int{0, 1, api.MaxSeq} {
			m := api.Msg{Kind: api.Ask, From: from, To: node, Epoch: 4, Op: op, E: put("a", 9, "nine")}
			handles(t, n, m, toldOf(m, put("a", 3, "one"), false, 1))
			m = api.Msg{Kind: api.Keep, From: from, To: node, Epoch: 4, Op: op, E: put("a", 2, "two")}
			handles(t, n, m, keptOf(m))
			m = api.Msg{Kind: api.Ask, From: from, To: node, Epoch: 3, Op: op, E: put("a", 9, "nine")}
			handles(t, n, m, otherOf(m, 4))
		}
	}
}

// An Ask uses the cell.
func TestAskUses(t *testing.T) {
	n := active(t, placeOf(2, 99, 2, 2), 1, put("a", 1, ""), put("b", 1, ""))
	handles(t, n, flushedOf(put("a", 1, "")))
	handles(t, n, flushedOf(put("b", 1, "")))
	m := askOf(1, "a")
	handles(t, n, m, toldOf(m, put("a", 1, ""), false, 1))
	m = keepOf(1, put("c", 1, ""))
	handles(t, n, m, keptOf(m))
	holds(t, n, put("a", 1, ""), put("c", 1, ""))
	m = askOf(1, "b")
	handles(t, n, m, toldOf(m, unwritten("b"), false, 2))
}

func TestKeep(t *testing.T) {
	n := active(t, placeOf(2, 9, 2, 2), 1)
	for _, e := range []api.Entry{put("a", 5, "five"), put("a", 4, "four"), put("a", 5, "again"), gone("b", 1)} {
		m := keepOf(1, e)
		handles(t, n, m, keptOf(m))
	}
	holds(t, n, put("a", 5, "five"), gone("b", 1))
	for _, e := range []api.Entry{put("c", 1, ""), put("a", 6, "12345678"), put("b", 2, "12345"), put("b", 2, strings.Repeat("v", 60000))} {
		m := keepOf(1, e)
		handles(t, n, m, noRoomOf(m))
		holds(t, n, put("a", 5, "five"), gone("b", 1))
	}
	// What wasn't written isn't stored, and nothing is said of it.
	for _, key := range []string{"a", "c"} {
		handles(t, n, keepOf(1, unwritten(key)))
	}
	m := keepOf(1, put("b", 2, "123"))
	handles(t, n, m, keptOf(m))
	marked(t, n, "a b", 1)
}

func TestFill(t *testing.T) {
	n := active(t, placeOf(3, 9, 2, 2), 1, put("a", 2, "x"))
	for _, token := range []int{0, 2, api.MaxSeq} {
		handles(t, n, fillOf(1, put("a", 3, "y"), token))
	}
	marked(t, n, "a", 1)
	handles(t, n, fillOf(1, put("a", 1, ""), 1))
	handles(t, n, fillOf(1, unwritten("b"), 1))
	handles(t, n, fillOf(1, put("c", 1, strings.Repeat("v", 99)), 1))
	marked(t, n, "a* B*", 1)
	handles(t, n, fillOf(1, put("b", 4, "four"), 1))
	marked(t, n, "a* B*", 1)
	holds(t, n, put("a", 2, "x"), put("b", 4, "four"))
}

// Whoever has it from the store may tell it, but only the depot that it has it.
func TestFlushed(t *testing.T) {
	a, b := put("a", 5, "x"), put("b", 1, "y")
	n := active(t, placeOf(3, 99, 2, 2), 1, a, b)
	for _, from := range []int{api.Chief, 2, node, asker, api.MaxID} {
		m := flushedOf(a)
		m.From = from
		handles(t, n, m)
	}
	handles(t, n, flushedOf(put("a", 4, "")))
	handles(t, n, flushedOf(put("c", 9, "")))
	handles(t, n, flushedOf(unwritten("a")))
	marked(t, n, "a b", 1)
	handles(t, n, flushedOf(put("a", 6, "later")))
	marked(t, n, "A b", 1)
	// The epoch of a Flushed doesn't matter, nor how the node stands.
	handles(t, n, sealOf(2, 0), dumpOf(sealOf(2, 0), 0, true, a, b))
	m := flushedOf(b)
	m.Epoch = 77
	handles(t, n, m)
	marked(t, n, "A B", 1)
}

// A node of no epoch takes what it is told of the store, too: it may have some entries.
func TestFlushedWhileApart(t *testing.T) {
	n := nodeAt(t, placeOf(3, 99, 2, 2))
	handles(t, n, installOf(1, 0, 0, false, put("a", 5, "x")))
	stands(t, n, api.Apart, 0)
	handles(t, n, flushedOf(put("a", 5, "x")))
	marked(t, n, "A", 1)
}

// A node answers for its epoch only, and only while it is active.
func TestOther(t *testing.T) {
	a := put("a", 1, "x")
	apart := nodeAt(t, placeOf(3, 99, 2, 2))
	handles(t, apart, installOf(4, 0, 0, false, a))
	now := active(t, placeOf(3, 99, 2, 2), 4, a)
	sealed := active(t, placeOf(3, 99, 2, 2), 4, a)
	handles(t, sealed, sealOf(7, 0), dumpOf(sealOf(7, 0), 0, true, a))
	joining := sealed.Copy()
	handles(t, joining, installOf(7, 0, 0, false))
	for _, c := range []struct {
		n     *replica.Node
		epoch int
		not   int
		now   []int
	}{{apart, 0, -1, []int{1}}, {now, 4, 4, []int{1}}, {sealed, 4, -1, []int{1}}, {joining, 4, -1, []int{2}}} {
		for _, epoch := range []int{0, 1, 3, 4, 5, 7, 8, api.MaxSeq} {
			if epoch == c.not {
				continue
			}
			for _, m := range []api.Msg{askOf(epoch, "a"), keepOf(epoch, put("a", 2, "y")), keepOf(epoch, unwritten("a"))} {
				handles(t, c.n, m, otherOf(m, c.epoch))
			}
			handles(t, c.n, fillOf(epoch, put("a", 2, "y"), c.now[0]))
			holds(t, c.n, a)
			marked(t, c.n, "a", c.now...)
		}
	}
}

// What is not for the node, or may not be, changes nothing, and nothing is sent.
func TestWrongMessages(t *testing.T) {
	n := active(t, placeOf(3, 99, 2, 2), 1, put("a", 1, "x"))
	for _, m := range []api.Msg{
		askOf(1, "a"), askOf(2, "a"), keepOf(1, put("a", 2, "y")), keepOf(0, put("a", 2, "y")), fillOf(1, put("a", 2, "y"), 1),
		flushedOf(put("a", 1, "")), sealOf(1, 0), sealOf(2, 0), installOf(1, 0, 0, true), installOf(2, 0, 0, true, put("a", 2, "y")),
	} {
		for _, spoil := range []func(m *api.Msg){
			func(m *api.Msg) { m.To = node - 1 },
			func(m *api.Msg) { m.To = node + 1 },
			func(m *api.Msg) { m.To = api.Chief },
			func(m *api.Msg) { m.To = api.Depot },
			func(m *api.Msg) { m.To = -node },
			func(m *api.Msg) { m.From, m.To = node, m.From },
			func(m *api.Msg) { m.From = -1 },
			func(m *api.Msg) { m.From = api.MaxID + 1 },
			func(m *api.Msg) { m.Epoch = -1 },
			func(m *api.Msg) { m.Epoch = api.MaxSeq + 1 },
			func(m *api.Msg) { m.Op = -1 },
			func(m *api.Msg) { m.Op = api.MaxSeq + 1 },
			func(m *api.Msg) { m.N = -1 },
			func(m *api.Msg) { m.N = api.MaxSeq + 1 },
			func(m *api.Msg) { m.R.Keep = 1 },
			func(m *api.Msg) { m.E.Val.B = make([]byte, api.MaxVal+1) },
			func(m *api.Msg) { m.E.Tag.Seq = -1 },
			func(m *api.Msg) { m.L = make([]api.Entry, 1) },
			func(m *api.Msg) { m.L = slices.Repeat([]api.Entry{put("b", 1, "")}, api.MaxList+1) },
			func(m *api.Msg) { m.Kind = 0 },
			func(m *api.Msg) { m.Kind = -m.Kind },
			func(m *api.Msg) { m.Kind += 256 },
		} {
			wrong := m
			spoil(&wrong)
			handles(t, n, wrong)
		}
	}
	stands(t, n, api.Active, 1)
	marked(t, n, "a", 1)
	holds(t, n, put("a", 1, "x"))
	m := installOf(2, 0, 0, false)
	m.Op = 1
	handles(t, n, m)
}

// All other kinds are for others.
func TestOtherKinds(t *testing.T) {
	a := put("a", 1, "x")
	n := active(t, placeOf(3, 99, 2, 2), 1, a)
	for _, from := range []int{api.Chief, api.Depot, asker} {
		for _, m := range []api.Msg{
			{Kind: api.Told, E: put("a", 2, "y"), N: 1, Flag: true}, {Kind: api.Kept, E: put("a", 2, "y")}, {Kind: api.NoRoom, E: a},
			{Kind: api.Other, N: 9}, {Kind: api.Look, E: a}, {Kind: api.Found, E: put("a", 2, "y")}, {Kind: api.Flush, E: put("a", 2, "y")},
			{Kind: api.Dump, N: 1, Flag: true, L: []api.Entry{put("a", 2, "y")}}, {Kind: api.Ready}, {Kind: api.Beat},
			{Kind: api.News, R: api.Ring{Nodes: []int{node}, Each: 1, Keep: 1}},
		} {
			for _, epoch := range []int{0, 1, 2} {
				m.From, m.To, m.Epoch = from, node, epoch
				handles(t, n, m)
			}
		}
	}
	stands(t, n, api.Active, 1)
	marked(t, n, "a", 1)
	holds(t, n, a)
}

// Only the chief seals and installs.
func TestOnlyTheChief(t *testing.T) {
	for _, from := range []int{api.Depot, 2, node, asker, api.MaxID} {
		n := active(t, placeOf(3, 99, 2, 2), 1)
		for _, m := range []api.Msg{sealOf(1, 5), sealOf(2, 5), installOf(1, 5, 0, true), installOf(2, 5, 0, true, put("a", 1, ""))} {
			m.From = from
			handles(t, n, m)
		}
		stands(t, n, api.Active, 1)
		marked(t, n, "", 1)
		// Nor was any of these heeded.
		handles(t, n, sealOf(1, 0), dumpOf(sealOf(1, 0), 0, true))
	}
}

func TestNilNode(t *testing.T) {
	var n *replica.Node
	for _, m := range []api.Msg{{}, askOf(0, "a"), keepOf(0, put("a", 1, "")), fillOf(0, put("a", 1, ""), 0), flushedOf(put("a", 1, "")), sealOf(1, 0), installOf(1, 0, 0, true)} {
		handles(t, n, m)
	}
	sends(t, "Tick", n.Tick())
	stands(t, n, api.Apart, 0)
	marked(t, n, "")
	if n.Copy() != nil {
		t.Error("Copy of nil")
	}
}

// A node that New has not made says nothing, whatever it is told.
func TestZeroNode(t *testing.T) {
	var zero replica.Node
	for _, n := range []*replica.Node{&zero, zero.Copy()} {
		for _, m := range []api.Msg{askOf(0, "a"), keepOf(0, put("a", 1, "")), installOf(1, 0, 0, true), askOf(1, "a"), sealOf(1, 0), sealOf(2, 0)} {
			for _, to := range []int{0, node} {
				m.To = to
				handles(t, n, m)
			}
		}
		sends(t, "Tick", n.Tick())
		stands(t, n, api.Apart, 0)
		marked(t, n, "")
	}
}
