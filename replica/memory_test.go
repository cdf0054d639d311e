package replica_test

import (
	"slices"
	"testing"

	"icehouse/api"
	"icehouse/replica"
)

// spoil overwrites bytes up to their capacity.
func spoil(b []byte) {
	b = b[:cap(b)]
	for i := range b {
		b[i] = '#'
	}
}

func spoilEntries(l []api.Entry) {
	l = l[:cap(l)]
	for i := range l {
		spoil(l[i].Val.B)
		l[i] = put("#", 77, "#")
	}
}

// spoilMsgs overwrites all that hangs on messages.
func spoilMsgs(l []api.Msg) {
	l = l[:cap(l)]
	for i := range l {
		spoil(l[i].E.Val.B)
		spoilEntries(l[i].L)
		l[i] = api.Msg{Kind: api.Beat, From: 77, L: []api.Entry{put("#", 77, "#")}}
	}
}

// Messages that store something are neither changed nor kept.
func TestMessagesAreNotRetained(t *testing.T) {
	want := []api.Entry{put("a", 4, "value"), put("b", 4, "value")}
	for _, m := range []api.Msg{keepOf(1, put("a", 4, "value")), fillOf(1, put("a", 4, "value"), 1), installOf(2, 0, 0, true, want...)} {
		n := active(t, placeOf(9, 99, 2, 2), 1)
		long := []byte("value and more")
		m.E.Val.B = append(long[:0:0], m.E.Val.B...)
		m.L = slices.Clone(m.L)
		for i := range m.L {
			m.L[i].Val.B = long[:5:14]
		}
		n.Handle(m)
		if string(long) != "value and more" || m.Kind == api.Install && !slices.EqualFunc(m.L, want, sameEntry) || m.Kind != api.Install && !sameEntry(m.E, want[0]) {
			t.Errorf("%v was changed", m)
		}
		had := entriesOf(n.Cells())
		spoil(m.E.Val.B)
		spoilEntries(m.L)
		holds(t, n, had...)
		if len(had) == 0 || !sameEntry(had[0], want[0]) {
			t.Errorf("the entries are %v", had)
		}
	}
}

// What becomes of what was sent is not seen in the node, or in what else is sent.
func TestSentIsNewMemory(t *testing.T) {
	a, b, c := put("a", 1, "one"), put("b", 2, "two"), put("c", 3, "three")
	n := active(t, placeOf(9, 99, 2, 2), 1, a, b, c)
	for _, m := range []api.Msg{askOf(1, "a"), askOf(2, "a"), keepOf(1, a), sealOf(1, 0), installOf(1, 0, 0, true)} {
		one, other := n.Handle(m), n.Handle(m)
		want := slices.Clone(other)
		spoilMsgs(one)
		if !sameMsgs(other, want) {
			t.Errorf("%v was sent, not %v", other, want)
		}
		sends(t, "Handle", n.Handle(m), want...)
		holds(t, n, a, b, c)
	}
	one := n.Tick()
	other := n.Tick()
	spoilMsgs(one)
	sends(t, "Tick", other, beatOf(1), flushOf(1, c), flushOf(1, a))
	sends(t, "Tick", n.Tick(), beatOf(1), flushOf(1, b), flushOf(1, c))
	holds(t, n, a, b, c)
}

// The parts of a Dump don't lie in one another's capacity, nor do the values of a Tick.
func TestSentApart(t *testing.T) {
	var l []api.Entry
	for i := range 20 {
		l = append(l, put(string(rune('a'+i)), 1, "value"))
	}
	n := active(t, placeOf(20, 999, 20, 3), 1, l...)
	parts := n.Handle(sealOf(2, 0))
	for i := range parts {
		spoilEntries(parts[i].L)
		for k := i + 1; k < len(parts); k++ {
			if want := l[3*k : min(3*k+3, 20)]; !slices.EqualFunc(parts[k].L, want, sameEntry) {
				t.Fatalf("part %d is %v behind part %d", k, parts[k].L, i)
			}
		}
	}
	sent := n.Tick()[1:]
	for i := range sent {
		spoil(sent[i].E.Val.B)
		if i+1 < len(sent) && !sameEntry(sent[i+1].E, l[i+1]) {
			t.Fatalf("%v behind another one", sent[i+1].E)
		}
	}
	holds(t, n, l...)
}

func TestCellsAndTokensAreNewMemory(t *testing.T) {
	n := active(t, placeOf(9, 99, 2, 2), 1, put("a", 1, "one"), put("b", 1, "two"))
	for range 2 {
		l, tokens := n.Cells(), n.Tokens()
		for i := range l {
			spoil(l[i].E.Val.B)
			l[i] = api.Cell{Used: -1}
		}
		tokens[0] = 99
		holds(t, n, put("a", 1, "one"), put("b", 1, "two"))
		marked(t, n, "a b", 1)
	}
}

// states: nodes in all modes, each made anew, and what each would answer next.
func states(t *testing.T) []*replica.Node {
	t.Helper()
	p := placeOf(9, 99, 1, 2)
	apart := nodeAt(t, p)
	first := nodeAt(t, p)
	handles(t, first, installOf(2, 1, 1, true, put("a", 1, "x")))
	now := active(t, p, 2, put("a", 1, "x"), put("b", 1, "y"))
	now.Tick()
	sealed := now.Copy()
	sealed.Handle(sealOf(2, 1))
	sealed.Handle(sealOf(4, 1))
	joining := now.Copy()
	joining.Handle(installOf(2, 1, 0, false))
	joining.Handle(installOf(5, 1, 1, true))
	return []*replica.Node{apart, first, now, sealed, joining}
}

// later is a long row of calls, and all that is answered.
func later(n *replica.Node) []api.Msg {
	var out []api.Msg
	for _, m := range []api.Msg{
		askOf(2, "a"), keepOf(2, put("b", 3, "z")), flushedOf(put("a", 1, "")), sealOf(2, 0), sealOf(2, 1), installOf(2, 1, 0, false), installOf(5, 1, 0, false), installOf(5, 0, 0, true),
		sealOf(4, 0), sealOf(4, 1), sealOf(6, 0), installOf(5, 9, 0, true), askOf(5, "b"), installOf(6, 0, 1, true, gone("c", 1)), installOf(6, 0, 0, false), askOf(6, "c"),
	} {
		out = append(append(out, n.Handle(m)...), n.Tick()...)
	}
	return append(out, api.Msg{Op: n.Mode(), Epoch: n.Epoch(), L: entriesOf(n.Cells()), R: api.Ring{Each: n.Tokens()[0]}})
}

// same holds rows of answers against each other, whatever stands in them.
func same(a, b []api.Msg) bool {
	return slices.EqualFunc(a, b, func(x, y api.Msg) bool { return sameMsg(x, y) && slices.Equal(x.R.Nodes, y.R.Nodes) })
}

// A copy answers as the node would, and neither sees what the other one is told.
func TestCopy(t *testing.T) {
	for i := range states(t) {
		want := later(states(t)[i])
		n := states(t)[i]
		c := n.Copy()
		if got := later(n); !same(got, want) {
			t.Errorf("state %d: the node sends %v, not %v", i, got, want)
		}
		d := c.Copy()
		if got := later(c); !same(got, want) {
			t.Errorf("state %d: the copy sends %v, not %v", i, got, want)
		}
		if got := later(d); !same(got, want) {
			t.Errorf("state %d: the copy of the copy sends %v, not %v", i, got, want)
		}
	}
}

// Two nodes, and a node and its copy, have nothing in common.
func TestNodesAreIndependent(t *testing.T) {
	a := active(t, placeOf(9, 99, 2, 2), 1, put("a", 1, "one"))
	b, c := active(t, placeOf(9, 99, 2, 2), 1, put("a", 1, "one")), a.Copy()
	spoilNode(a)
	for _, n := range []*replica.Node{b, c} {
		stands(t, n, api.Active, 1)
		marked(t, n, "a", 1)
		ticks := n.Tick()
		sends(t, "Tick", ticks, beatOf(1), flushOf(1, put("a", 1, "one")))
	}
}
