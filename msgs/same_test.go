package msgs_test

import (
	"testing"

	"icehouse/api"
	"icehouse/msgs"
)

// ruin overwrites all memory that a message has.
func ruin(m api.Msg) {
	spoil(m.E.Val.B, 0xee)
	for _, e := range m.L[:cap(m.L)] {
		spoil(e.Val.B, 0xee)
	}
	spoil(m.L, api.Entry{Key: "ruined"})
	spoil(m.R.Nodes, -1)
}

// others: messages that differ from the full one of kind Told in one thing each.
func others() map[string]api.Msg {
	out := map[string]api.Msg{}
	add := func(name string, change func(m *api.Msg)) {
		m := full(api.Told)
		change(&m)
		out[name] = m
	}
	add("Kind", func(m *api.Msg) { m.Kind = api.Ask })
	add("no kind", func(m *api.Msg) { m.Kind = 18 })
	add("From", func(m *api.Msg) { m.From++ })
	add("To", func(m *api.Msg) { m.To++ })
	add("From and To", func(m *api.Msg) { m.From, m.To = m.To, m.From })
	add("Epoch", func(m *api.Msg) { m.Epoch++ })
	add("Op", func(m *api.Msg) { m.Op++ })
	add("Epoch and Op", func(m *api.Msg) { m.Epoch, m.Op = m.Op, m.Epoch })
	add("N", func(m *api.Msg) { m.N++ })
	add("Flag", func(m *api.Msg) { m.Flag = false })
	add("no E", func(m *api.Msg) { m.E = api.Entry{} })
	add("key", func(m *api.Msg) { m.E.Key = "j" })
	add("Seq", func(m *api.Msg) { m.E.Tag.Seq++ })
	add("Who", func(m *api.Msg) { m.E.Tag.Who++ })
	add("Op of E", func(m *api.Msg) { m.E.Tag.Op++ })
	add("value", func(m *api.Msg) { m.E.Val = val("xz") })
	add("an empty value", func(m *api.Msg) { m.E.Val = val("") })
	add("no value", func(m *api.Msg) { m.E.Val = api.Val{} })
	add("no L", func(m *api.Msg) { m.L = nil })
	add("less L", func(m *api.Msg) { m.L = m.L[:1] })
	add("the other part of L", func(m *api.Msg) { m.L = m.L[1:] })
	add("more L", func(m *api.Msg) { m.L = append(m.L, m.L[0]) })
	add("a zero entry more", func(m *api.Msg) { m.L = append(m.L, api.Entry{}) })
	add("the order of L", func(m *api.Msg) { m.L[0], m.L[1] = m.L[1], m.L[0] })
	add("the first of L", func(m *api.Msg) { m.L[0].Key = "c" })
	add("the last of L", func(m *api.Msg) { m.L[1].Tag.Op++ })
	add("a value in L", func(m *api.Msg) { m.L[0].Val.B = []byte("v") })
	add("no value in L", func(m *api.Msg) { m.L[0].Val.Has = false })
	add("no R", func(m *api.Msg) { m.R = api.Ring{} })
	add("a node", func(m *api.Msg) { m.R.Nodes[2]++ })
	add("the order of nodes", func(m *api.Msg) { m.R.Nodes[0], m.R.Nodes[1] = 5, 2 })
	add("a node less", func(m *api.Msg) { m.R.Nodes = m.R.Nodes[:2] })
	add("a node more", func(m *api.Msg) { m.R.Nodes = append(m.R.Nodes, 301) })
	add("Each", func(m *api.Msg) { m.R.Each++ })
	add("Keep", func(m *api.Msg) { m.R.Keep++ })
	return out
}

func TestSame(t *testing.T) {
	m := full(api.Told)
	if !msgs.Same(m, m) || !msgs.Same(m, full(api.Told)) || !msgs.Same(api.Msg{}, api.Msg{}) {
		t.Error("what is the same is not")
	}
	all := others()
	for name, a := range all {
		if msgs.Same(m, a) || msgs.Same(a, m) {
			t.Errorf("another one is the same: %s", name)
		}
		if !msgs.Same(a, a) || !msgs.Same(a, taken(a)) {
			t.Errorf("one is not the same as itself: %s", name)
		}
		for other, b := range all {
			if msgs.Same(a, b) != (name == other) {
				t.Errorf("Same of two others: %s, %s", name, other)
			}
		}
	}
}

func TestSameOfAll(t *testing.T) {
	l := rightMsgs()
	for i, a := range l {
		for k := max(0, i-60); k < len(l); k += 1 + k/40 {
			if got, want := msgs.Same(a, l[k]), alike(a, l[k]); got != want {
				t.Errorf("Same of %d and %d is %v", i, k, got)
			}
		}
	}
	for _, c := range wrongMsgs() {
		if !msgs.Same(c.m, taken(c.m)) {
			t.Errorf("kind %d, %s: not the same as itself", c.m.Kind, c.name)
		}
	}
}

// A nil slice and an empty one are the same, and bytes without Has are no value.
func TestSameOfNothing(t *testing.T) {
	a := api.Msg{Kind: api.Dump}
	b := api.Msg{Kind: api.Dump, L: []api.Entry{}, E: api.Entry{Val: api.Val{B: []byte{}}}, R: api.Ring{Nodes: []int{}}}
	if !msgs.Same(a, b) || !msgs.Same(b, a) {
		t.Error("nil and empty slices")
	}
	b.E.Val.B = []byte("x")
	if !msgs.Same(a, b) || !msgs.Same(b, a) {
		t.Error("bytes without Has in E")
	}
	a.L = []api.Entry{{Key: "k"}}
	b.L = []api.Entry{{Key: "k", Val: api.Val{B: []byte("x")}}}
	if !msgs.Same(a, b) || !msgs.Same(b, a) {
		t.Error("bytes without Has in L")
	}
}

func TestCopy(t *testing.T) {
	l := rightMsgs()
	for _, c := range wrongMsgs() {
		l = append(l, c.m)
	}
	for _, m := range others() {
		l = append(l, m)
	}
	l = append(l, api.Msg{}, full(0), full(api.Beat))
	for i, m := range l {
		before := taken(m)
		if got := msgs.Copy(m); !alike(got, before) || !msgs.Same(got, m) {
			t.Errorf("the copy of message %d differs", i)
		}
		if !alike(m, before) {
			t.Errorf("Copy changed message %d", i)
		}
	}
}

// What becomes of a copy is seen neither in the message nor in another copy, and the
// other way round.
func TestCopiesAreNewMemory(t *testing.T) {
	for _, kind := range []int{0, api.Told, api.Dump, api.News} {
		m := full(kind)
		m.E.Val.B = append(make([]byte, 0, 64), m.E.Val.B...)
		m.L = append(make([]api.Entry, 0, 64), m.L...)
		m.L[0].Val.B = append(make([]byte, 0, 64), "long"...)
		m.R.Nodes = append(make([]int, 0, 64), m.R.Nodes...)
		want := taken(m)
		one, other := msgs.Copy(m), msgs.Copy(m)
		ruin(one)
		if !alike(other, want) || !alike(m, want) || !alike(msgs.Copy(m), want) {
			t.Errorf("kind %d: a copy is seen elsewhere", kind)
		}
		if m.E.Val.B[:64][63] != 0 || m.L[:64][63].Key != "" || m.R.Nodes[:64][63] != 0 {
			t.Errorf("kind %d: a copy is seen behind the message", kind)
		}
		ruin(m)
		if !alike(other, want) {
			t.Errorf("kind %d: the message is seen in a copy", kind)
		}
	}
}

// The entries of a copy, and those that are read, share nothing.
func TestEntriesShareNothing(t *testing.T) {
	e := entry("k", tag(1, 0, 0), val("same"))
	m := api.Msg{Kind: api.Dump, L: []api.Entry{e, e, e}}
	read, err := msgs.Read(mustBytes(t, m))
	if err != api.OK {
		t.Fatalf("error %d", err)
	}
	for name, got := range map[string]api.Msg{"Copy": msgs.Copy(m), "Read": read} {
		spoil(got.L[1].Val.B, 0xee)
		if string(got.L[0].Val.B) != "same" || string(got.L[2].Val.B) != "same" || string(e.Val.B) != "same" {
			t.Errorf("%s: a value is seen in another one", name)
		}
	}
}

func TestBack(t *testing.T) {
	all := append(allKinds(), noKinds()...)
	for _, from := range all {
		for _, kind := range all {
			m := full(from)
			before := taken(m)
			want := api.Msg{Kind: kind, From: 300, To: 7, Epoch: 5, Op: 70000}
			if has(kind, "E") {
				want.E.Key = "k"
			}
			if got := msgs.Back(m, kind); !alike(got, want) {
				t.Errorf("Back of kind %d as %d is %v", from, kind, got)
			}
			if !alike(m, before) {
				t.Errorf("Back changed a message of kind %d", from)
			}
		}
	}
}

// A message that has no key, or may not be at all, is answered as it is.
func TestBackOfAnyMessages(t *testing.T) {
	for _, kind := range allKinds() {
		if got := msgs.Back(api.Msg{}, kind); !alike(got, api.Msg{Kind: kind}) {
			t.Errorf("Back of the zero message as %d is %v", kind, got)
		}
		for _, c := range wrongMsgs() {
			want := api.Msg{Kind: kind, From: c.m.To, To: c.m.From, Epoch: c.m.Epoch, Op: c.m.Op}
			if has(kind, "E") {
				want.E.Key = c.m.E.Key
			}
			if got := msgs.Back(c.m, kind); !alike(got, want) {
				t.Errorf("%s: Back as %d is %v", c.name, kind, got)
			}
		}
	}
}

// What is sent back for one that may be may be too, if its key goes back with it, and
// back again it has the same sender.
func TestBackMayBe(t *testing.T) {
	for _, m := range rightMsgs() {
		for _, kind := range allKinds() {
			back := msgs.Back(m, kind)
			may := !has(kind, "R") && (!has(kind, "E") || has(m.Kind, "E"))
			if (msgs.Check(back) == api.OK) != may {
				t.Errorf("Back of kind %d as %d: error %d", m.Kind, kind, msgs.Check(back))
			}
			if again := msgs.Back(back, m.Kind); again.From != m.From || again.To != m.To {
				t.Errorf("Back of Back of kind %d is from %d", m.Kind, again.From)
			}
		}
	}
}
