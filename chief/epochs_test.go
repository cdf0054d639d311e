package chief_test

import (
	"maps"
	"slices"
	"testing"

	"icehouse/api"
	"icehouse/chief"
	"icehouse/msgs"
	"icehouse/replica"
	"icehouse/ring"
	"icehouse/tags"
)

// writer is who has entries kept by nodes of the established epoch.
const writer = 99

// written is an entry, of how many keepers, and which of them have kept it in which epoch.
type written struct {
	e       api.Entry
	epoch   int
	keepers int
	kept    map[int]bool
}

// world is a chief, nodes, and the messages under way.
type world struct {
	t      *testing.T
	d      dice
	c      *chief.Chief
	nodes  map[int]*replica.Node
	flight []api.Msg
	writes []*written
	was    term // what was established last
}

func worldOf(t *testing.T, d dice, keep, nodes int) *world {
	t.Helper()
	w := &world{t: t, d: d, c: chiefAt(t, 2, keep, 2), nodes: map[int]*replica.Node{}}
	replicas(t, w.c, nodes)
	for id := 2; id < nodes+2; id++ {
		n, e := replica.New(api.Place{ID: id, Room: api.Room{Cells: 100, Bytes: 10000, Buckets: 2}, Batch: 1, Chunk: 2})
		if e != api.OK {
			t.Fatalf("replica.New: error %d", e)
		}
		w.nodes[id] = n
	}
	return w
}

func (w *world) deliver(i int) {
	m := w.flight[i]
	w.flight = slices.Delete(w.flight, i, i+1)
	switch {
	case m.To == api.Chief:
		w.flight = append(w.flight, w.c.Handle(m)...)
	case m.To == writer && m.Kind == api.Kept:
		w.writes[m.Op].kept[m.From] = true
	case w.nodes[m.To] != nil:
		w.flight = append(w.flight, w.nodes[m.To].Handle(m)...)
	}
}

// write sends a newer entry to the keepers of a key.
func (w *world) write() {
	epoch, r := w.c.Epoch()
	e := put(string(rune('a'+w.d.below(6))), len(w.writes)+1, "v")
	keepers, fault := ring.Keepers(r, e.Key)
	if fault != api.OK {
		return
	}
	for _, n := range keepers {
		m := api.Msg{Kind: api.Keep, From: writer, To: n, Epoch: epoch, Op: len(w.writes), E: e}
		w.flight = append(w.flight, msgs.Copy(m))
	}
	w.writes = append(w.writes, &written{e, epoch, len(keepers), map[int]bool{}})
}

// change asks for some other ring.
func (w *world) change() {
	var nodes []int
	for _, n := range slices.Sorted(maps.Keys(w.nodes)) {
		if w.d.below(3) > 0 {
			nodes = append(nodes, n)
		}
	}
	w.c.Change(nodes...)
}

// crash goes on with what is found.
func (w *world) crash() {
	w.c = crashed(w.t, w.c, w.d.below(9))
}

// chance does any one step.
func (w *world) chance() {
	n := len(w.flight)
	switch k := w.d.below(200); {
	case k < 12:
		w.flight = append(w.flight, w.c.Tick()...)
	case k < 20:
		w.write()
	case k < 22:
		w.change()
	case k < 23:
		w.crash()
	case n == 0:
	case k < 35:
		i := w.d.below(n)
		w.flight = slices.Delete(w.flight, i, i+1)
	case k < 45:
		w.flight = append(w.flight, msgs.Copy(w.flight[w.d.below(n)]))
	case n > 200:
		w.deliver(0)
	default:
		w.deliver(w.d.below(n))
	}
}

// round delivers all that is under way, and ticks the chief.
func (w *world) round() {
	for range len(w.flight) {
		w.deliver(0)
	}
	w.flight = append(w.flight, w.c.Tick()...)
}

// goesOn reports whether epochs are established one after the other, with the ring that was
// decided.
func (w *world) goesOn(decided term) bool {
	epoch, r := w.c.Epoch()
	is := term{epoch, r}
	switch {
	case is.epoch == w.was.epoch:
		return ring.Same(is.ring, w.was.ring)
	case is.epoch != w.was.epoch+1, is.epoch != decided.epoch, !ring.Same(is.ring, decided.ring):
		return false
	}
	w.was = is
	return true
}

// held is, for each key, the newest entry that a majority of its keepers has kept in an
// epoch before that.
func (w *world) held(epoch int) map[string]api.Entry {
	out := map[string]api.Entry{}
	for _, x := range w.writes {
		if x.epoch < epoch && 2*len(x.kept) > x.keepers && x.e.Tag.Seq > out[x.e.Key].Tag.Seq {
			out[x.e.Key] = x.e
		}
	}
	return out
}

// carried: each node that is active has what a majority held before its epoch, for the keys
// that it keeps.
func (w *world) carried(epoch int, r api.Ring) {
	for key, e := range w.held(epoch) {
		keepers, _ := ring.Keepers(r, key)
		for _, id := range keepers {
			n := w.nodes[id]
			if n.Mode() != api.Active || n.Epoch() != epoch {
				continue
			}
			i := slices.IndexFunc(n.Cells(), func(c api.Cell) bool { return c.E.Key == key })
			if i < 0 || tags.Compare(n.Cells()[i].E.Tag, e.Tag) < 0 {
				w.t.Errorf("node %d of epoch %d lacks %v", id, epoch, e)
			}
		}
	}
}

// What a majority held is carried into the next epoch, and what was established stays
// established, whatever is lost, sent twice or late, and whenever the chief crashes.
func TestEpochs(t *testing.T) {
	epochs, held := 0, 0
	for seed := range 120 {
		w := worldOf(t, dice(seed), seed%3+1, 5)
		for i := range 3000 {
			epoch, r := w.c.Next()
			w.chance()
			if !w.goesOn(term{epoch, r}) {
				t.Errorf("seed %d: after epoch %d", seed, w.was.epoch)
			}
			if i%8 == 0 {
				w.carried(w.c.Next())
			}
			if t.Failed() {
				return
			}
		}
		epochs, held = epochs+w.was.epoch, held+len(w.held(w.was.epoch))
	}
	if epochs < 500 || held < 300 {
		t.Errorf("there were %d epochs, and %d entries were held", epochs, held)
	}
}

// While nothing is lost, every change is done after some rounds, and all that is held is in
// all keepers of its key.
func TestChangesAreDone(t *testing.T) {
	for seed := range 60 {
		w := worldOf(t, dice(seed), 3, 6)
		for epoch := 1; epoch < 8; epoch++ {
			for n := w.was.epoch; n < epoch; n, _ = w.c.Next() {
				w.change()
			}
			next, r := w.c.Next()
			if seed%3 == 0 {
				w.crash()
			}
			for range 8 {
				w.round()
			}
			if !w.goesOn(term{next, r}) || w.was.epoch != epoch || w.c.Phase() != api.Idle {
				t.Fatalf("seed %d: epoch %d is not established", seed, epoch)
			}
			for _, id := range r.Nodes {
				if n := w.nodes[id]; n.Mode() != api.Active || n.Epoch() != epoch {
					t.Errorf("seed %d: node %d is in epoch %d", seed, id, n.Epoch())
				}
			}
			w.carried(next, r)
			for range 5 {
				w.write()
			}
			w.round()
			w.round()
			if want := len(w.writes); want != 5*epoch || slices.ContainsFunc(w.writes, func(x *written) bool { return len(x.kept) < 3 }) {
				t.Errorf("seed %d: of %d entries some are not kept", seed, want)
			}
		}
	}
}
