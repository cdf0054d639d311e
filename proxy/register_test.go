package proxy_test

import (
	"maps"
	"slices"
	"strconv"
	"testing"

	"icehouse/api"
	"icehouse/depot"
	"icehouse/msgs"
	"icehouse/proxy"
	"icehouse/replica"
	"icehouse/ring"
	"icehouse/tags"
)

// deed is what a call of a key did, between two steps of the world, as far as is known.
type deed struct {
	kind     int
	v        string // what was put
	from, to int
	known    bool // it was answered OK
	got      string
}

// nothing is the value of a key that has none.
const nothing = "none"

// linear reports whether the deeds may be done one after the other, each between its two
// steps, so that each Get gets what was there. Those that are not known may be left out.
func linear(deeds []deed) bool {
	type state struct {
		done uint
		v    string
	}
	seen := map[state]bool{}
	var goOn func(s state) bool
	goOn = func(s state) bool {
		if seen[s] {
			return false
		}
		seen[s] = true
		end, left := 1<<60, false
		for i, d := range deeds {
			if d.known && s.done>>i&1 == 0 {
				end, left = min(end, d.to), true
			}
		}
		if !left {
			return true
		}
		for i, d := range deeds {
			next := state{s.done | 1<<i, s.v}
			switch {
			case s.done>>i&1 == 1, d.from > end:
				continue
			case d.kind == api.Put:
				next.v = d.v
			case d.kind == api.Delete:
				next.v = nothing
			case d.known && d.got != s.v:
				continue
			}
			if goOn(next) {
				return true
			}
		}
		return false
	}
	return goOn(state{v: nothing})
}

// world is nodes, the depot, proxies, and the messages under way. What the chief would do
// is done at one stroke.
type world struct {
	t       *testing.T
	d       dice
	nodes   map[int]*replica.Node
	stopped map[int]bool
	proxies map[int]*proxy.Proxy
	depot   *depot.Server
	epoch   int
	ring    api.Ring
	flight  []api.Msg
	step    int
	calls   map[int]*deed
	keys    map[string][]*deed
	errors  map[api.Errno]int
}

func worldOf(t *testing.T, d dice, room api.Room, wait int) *world {
	t.Helper()
	w := &world{
		t: t, d: d, nodes: map[int]*replica.Node{}, stopped: map[int]bool{}, proxies: map[int]*proxy.Proxy{}, depot: depot.New(),
		calls: map[int]*deed{}, keys: map[string][]*deed{}, errors: map[api.Errno]int{},
	}
	for id := 10; id < 15; id++ {
		place := api.Place{ID: id, Room: room, Batch: 2, Chunk: 64}
		place.Room.Fresh = true
		n, e := replica.New(place)
		if e != api.OK {
			t.Fatalf("replica.New: error %d", e)
		}
		w.nodes[id] = n
	}
	for id := 20; id < 22; id++ {
		p, e := proxy.New(id, wait)
		if e != api.OK {
			t.Fatalf("New: error %d", e)
		}
		w.proxies[id] = p
	}
	return w
}

// change seals all nodes that are not stopped, which have to be enough of each list, and
// installs what they have in those of the next ring.
func (w *world) change(nodes ...int) {
	best := map[string]api.Entry{}
	w.epoch++
	for _, id := range w.live() {
		for _, m := range w.nodes[id].Handle(api.Msg{Kind: api.Seal, To: id, Epoch: w.epoch}) {
			for _, e := range m.L {
				best[e.Key] = tags.Newer(e, best[e.Key])
			}
		}
	}
	w.ring = api.Ring{Nodes: nodes, Each: 2, Keep: min(3, len(nodes))}
	for _, id := range nodes {
		m := api.Msg{Kind: api.Install, To: id, Epoch: w.epoch, Flag: true}
		for _, key := range slices.Sorted(maps.Keys(best)) {
			if keepers, _ := ring.Keepers(w.ring, key); slices.Contains(keepers, id) {
				m.L = append(m.L, best[key])
			}
		}
		w.nodes[id].Handle(m)
	}
}

func (w *world) live() []int {
	return slices.DeleteFunc(slices.Sorted(maps.Keys(w.nodes)), func(id int) bool { return w.stopped[id] })
}

func (w *world) call(id int, c api.Call) {
	c.ID = len(w.calls)
	d := &deed{kind: c.Kind, v: string(c.B), from: w.step}
	w.calls[c.ID], w.keys[c.Key] = d, append(w.keys[c.Key], d)
	w.take(w.proxies[id].Call(c))
}

func (w *world) take(l []api.Msg, answers []api.Answer) {
	w.flight = append(w.flight, l...)
	for _, a := range answers {
		d := w.calls[a.ID]
		d.to, d.known, d.got = w.step, a.E == api.OK, nothing
		if a.Val.Has {
			d.got = string(a.Val.B)
		}
		w.errors[a.E]++
	}
}

func (w *world) deliver(i int) {
	m := w.flight[i]
	w.flight = slices.Delete(w.flight, i, i+1)
	if msgs.Check(m) != api.OK {
		w.t.Errorf("%v may not be sent", m)
	}
	switch {
	case m.To == api.Depot:
		w.take(w.depot.Handle(m), nil)
	case w.nodes[m.To] != nil && !w.stopped[m.To]:
		w.take(w.nodes[m.To].Handle(m), nil)
	case w.proxies[m.To] != nil:
		w.take(w.proxies[m.To].Handle(m))
	}
}

// tickAll ticks all, and tells the proxies of the epoch once more.
func (w *world) tickAll() {
	w.take(w.depot.Tick(), nil)
	for _, id := range w.live() {
		w.take(w.nodes[id].Tick()[1:], nil) // behind the Beat
	}
	for _, id := range slices.Sorted(maps.Keys(w.proxies)) {
		w.flight = append(w.flight, api.Msg{Kind: api.News, To: id, Epoch: w.epoch, R: w.ring})
		w.take(w.proxies[id].Tick())
	}
}

// round delivers all that is under way, in order, and ticks all.
func (w *world) round() {
	for range len(w.flight) {
		w.deliver(0)
	}
	w.tickAll()
	w.step++
}

func (w *world) someCall(keys int) {
	kind := w.d.below(3) + 1
	c := api.Call{Kind: kind, Key: string(rune('a' + w.d.below(keys)))}
	if kind == api.Put {
		c.B = []byte(strconv.Itoa(len(w.calls)))
	}
	w.call(20+w.d.below(2), c)
}

// chance does any one step.
func (w *world) chance(keys, calls int) {
	w.step++
	n := len(w.flight)
	switch k := w.d.below(100); {
	case k < 3 && len(w.calls) < calls:
		w.someCall(keys)
	case k < 6:
		w.tickAll()
	case n == 0:
	case k < 12:
		w.flight = slices.Delete(w.flight, k*n/12, k*n/12+1)
	case k < 18:
		w.flight = append(w.flight, msgs.Copy(w.flight[w.d.below(n)]))
	case n > 300:
		w.deliver(0)
	default:
		w.deliver(w.d.below(n))
	}
}

func (w *world) isLinear(name string) {
	w.t.Helper()
	for _, key := range slices.Sorted(maps.Keys(w.keys)) {
		var deeds []deed
		for _, d := range w.keys[key] {
			deeds = append(deeds, *d)
		}
		if !linear(deeds) {
			w.t.Errorf("%s: the deeds of %q are not linear: %v", name, key, deeds)
		}
	}
}

// The deeds that a test of registers has to tell apart.
func TestLinear(t *testing.T) {
	putX := deed{kind: api.Put, v: "x", from: 0, to: 2, known: true}
	get := func(from, to int, got string) deed {
		return deed{kind: api.Get, from: from, to: to, known: true, got: got}
	}
	maybe := putX
	maybe.known = false
	for _, c := range []struct {
		l    []deed
		want bool
	}{
		{nil, true},
		{[]deed{putX, get(3, 4, "x")}, true},
		{[]deed{putX, get(3, 4, nothing)}, false},
		{[]deed{putX, get(1, 4, nothing)}, true},
		{[]deed{putX, get(1, 4, nothing), get(5, 6, "x")}, true},
		{[]deed{putX, get(1, 1, "x"), get(2, 2, nothing)}, false},
		{[]deed{maybe, get(3, 4, nothing)}, true},
		{[]deed{maybe, get(3, 4, "x")}, true},
		{[]deed{maybe, get(3, 4, "x"), get(5, 6, nothing)}, false},
		{[]deed{get(3, 4, "x")}, false},
		{[]deed{putX, {kind: api.Delete, from: 3, to: 4, known: true}, get(5, 6, "x")}, false},
	} {
		if got := linear(c.l); got != c.want {
			t.Errorf("%v: %v", c.l, got)
		}
	}
}

// Whatever is lost, sent twice, late or stopped, in whatever epoch: the answers are those
// of registers.
func TestRegisters(t *testing.T) {
	errors := map[api.Errno]int{}
	for seed := range 400 {
		room := api.Room{Cells: seed%4 + 1, Bytes: 1000, Buckets: seed%2 + 1}
		w := worldOf(t, dice(seed), room, 20+seed%50)
		w.change(10, 11, 12)
		for i := range 2500 {
			w.chance(3, 24)
			switch i {
			case 700:
				w.stopped[11] = seed%4 == 0
			case 1200:
				w.change(10, 12, 13)
			case 1800:
				w.change(12, 13, 14)
			}
		}
		w.isLinear("seed " + strconv.Itoa(seed))
		for e, n := range w.errors {
			errors[e] += n
		}
		if t.Failed() {
			return
		}
	}
	if errors[api.OK] < 1000 || errors[api.ErrTime] == 0 || errors[api.ErrBusy] == 0 || len(errors) > 3 {
		t.Errorf("how often each error was answered: %v", errors)
	}
}

// While the nodes of a ring are there, and there is room, all calls are answered, and all
// becomes durable; one of three nodes may be stopped.
func TestAllIsAnswered(t *testing.T) {
	for seed := range 60 {
		w := worldOf(t, dice(seed), api.Room{Cells: 30, Bytes: 1000, Buckets: 2}, 20)
		w.change(10, 11, 12)
		w.stopped[12] = seed%2 == 0
		for i := range 60 {
			if i < 30 {
				w.someCall(4)
			}
			w.round()
		}
		if w.errors[api.OK] != 30 || len(w.errors) != 1 {
			t.Errorf("seed %d: the errors are %v", seed, w.errors)
		}
		w.isLinear("seed " + strconv.Itoa(seed))
		for _, id := range w.live() {
			for _, c := range w.nodes[id].Cells() {
				if !c.Clean || tags.Compare(w.depot.Get(c.E.Key).Tag, c.E.Tag) < 0 {
					t.Errorf("seed %d: node %d has %v, which is not durable", seed, id, c.E)
				}
			}
		}
	}
}
