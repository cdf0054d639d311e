package replica_test

import (
	"slices"
	"testing"

	"icehouse/api"
	"icehouse/cells"
	"icehouse/msgs"
	"icehouse/replica"
)

// paper is a node by the chapter's words, one after the other. What a table does is asked
// of a table.
type paper struct {
	place     api.Place
	table     *cells.Table
	mode      int
	epoch     int
	sealedFor int
	heeded    []api.Msg
	joining   bool
	joinEpoch int
	joinN     int
	received  []int
	lastKnown bool
	last      int
	flushed   string
}

func paperAt(t *testing.T, p api.Place) *paper {
	t.Helper()
	x, e := cells.New(p.Room)
	if e != api.OK {
		t.Fatalf("cells.New(%v): error %d", p.Room, e)
	}
	return &paper{place: p, table: x}
}

func (p *paper) handle(m api.Msg) []api.Msg {
	if msgs.Check(m) != api.OK || m.To != p.place.ID {
		return nil
	}
	switch m.Kind {
	case api.Ask, api.Keep, api.Fill:
		if p.mode != api.Active || m.Epoch != p.epoch {
			if m.Kind == api.Fill {
				return nil
			}
			return []api.Msg{otherOf(m, p.epoch)}
		}
		return p.serve(m)
	case api.Flushed:
		if m.From == api.Depot {
			p.table.Clean(m.E.Key, m.E.Tag)
		}
	case api.Seal:
		if m.From == api.Chief {
			return p.seal(m)
		}
	case api.Install:
		if m.From == api.Chief {
			return p.install(m)
		}
	}
	return nil
}

func (p *paper) serve(m api.Msg) []api.Msg {
	if m.Kind == api.Ask {
		r, _ := p.table.Query(m.E.Key)
		return []api.Msg{toldOf(m, r.E, r.Whole, r.Token)}
	}
	if m.Kind == api.Fill {
		p.table.Fill(m.E, m.N)
		return nil
	}
	e := p.table.Store(m.E)
	if e == api.OK {
		return []api.Msg{keptOf(m)}
	}
	if e == api.ErrBusy {
		return []api.Msg{noRoomOf(m)}
	}
	return nil
}

func (p *paper) old(m api.Msg) bool {
	for _, h := range p.heeded {
		if h.Epoch > m.Epoch || h.Epoch == m.Epoch && h.N > m.N {
			return true
		}
	}
	return false
}

func (p *paper) seal(m api.Msg) []api.Msg {
	if p.mode == api.Apart {
		return nil
	}
	if m.Epoch < p.epoch || m.Epoch == p.epoch && p.mode != api.Active {
		return nil
	}
	if p.mode == api.Sealed && p.sealedFor > m.Epoch {
		return nil
	}
	if p.old(m) {
		return nil
	}
	p.heeded = append(p.heeded, m)
	if m.Epoch > p.epoch {
		p.mode = api.Sealed
		p.sealedFor = m.Epoch
	}
	return p.dump(m)
}

func (p *paper) dump(m api.Msg) []api.Msg {
	l := entriesOf(p.table.Cells())
	if len(l) == 0 {
		return []api.Msg{dumpOf(m, 0, true)}
	}
	var out []api.Msg
	for len(l) > p.place.Chunk {
		out = append(out, dumpOf(m, len(out), false, l[:p.place.Chunk]...))
		l = l[p.place.Chunk:]
	}
	return append(out, dumpOf(m, len(out), true, l...))
}

func (p *paper) install(m api.Msg) []api.Msg {
	if m.Epoch < p.epoch || m.Epoch == 0 || p.mode == api.Sealed && p.sealedFor > m.Epoch {
		return nil
	}
	if m.Epoch == p.epoch && p.mode == api.Active {
		return []api.Msg{readyOf(m)}
	}
	if p.old(m) {
		return nil
	}
	p.heeded = append(p.heeded, m)
	if !p.joining || p.joinEpoch != m.Epoch || p.joinN != m.N {
		p.joining, p.joinEpoch, p.joinN = true, m.Epoch, m.N
		p.received = nil
		p.lastKnown = false
		p.table.Forget()
	}
	for _, e := range m.L {
		if e.Tag != (api.Tag{}) && p.table.Store(e) != api.OK {
			return nil
		}
	}
	p.received = append(p.received, m.Op)
	if m.Flag {
		p.lastKnown, p.last = true, m.Op
	}
	if !p.lastKnown || !p.allReceived() {
		return nil
	}
	p.mode, p.epoch = api.Active, m.Epoch
	return []api.Msg{readyOf(m)}
}

func (p *paper) allReceived() bool {
	for op := 0; op <= p.last; op++ {
		if !slices.Contains(p.received, op) {
			return false
		}
	}
	return true
}

func (p *paper) tick() []api.Msg {
	out := []api.Msg{beatOf(p.epoch)}
	var first, others []api.Entry
	for _, e := range p.table.Dirty() {
		if e.Key > p.flushed {
			first = append(first, e)
		} else {
			others = append(others, e)
		}
	}
	for i, e := range append(first, others...) {
		if i < p.place.Batch {
			out = append(out, flushOf(p.epoch, e))
			p.flushed = e.Key
		}
	}
	return out
}

// agrees holds all that a node tells of itself against the paper.
func (p *paper) agrees(t *testing.T, name string, n *replica.Node) {
	t.Helper()
	if n.Mode() != p.mode || n.Epoch() != p.epoch {
		t.Errorf("%s: the mode is %d, not %d; the epoch is %d, not %d", name, n.Mode(), p.mode, n.Epoch(), p.epoch)
	}
	if got := n.Cells(); !slices.EqualFunc(got, p.table.Cells(), sameCell) {
		t.Errorf("%s: the cells are %v, not %v", name, got, p.table.Cells())
	}
	if got := n.Tokens(); !slices.Equal(got, p.table.Tokens()) {
		t.Errorf("%s: the tokens are %v, not %v", name, got, p.table.Tokens())
	}
}
