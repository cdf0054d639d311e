package chief_test

import (
	"slices"
	"testing"

	"icehouse/api"
	"icehouse/chief"
)

// spoil overwrites bytes up to their capacity.
func spoil(b []byte) {
	b = b[:cap(b)]
	for i := range b {
		b[i] = '#'
	}
}

func spoilNodes(l []int) {
	l = l[:cap(l)]
	for i := range l {
		l[i] = 77
	}
}

func spoilEntries(l []api.Entry) {
	l = l[:cap(l)]
	for i := range l {
		spoil(l[i].Val.B)
		l[i] = unwritten("#")
	}
}

func spoilMsgs(l []api.Msg) {
	l = l[:cap(l)]
	for i := range l {
		spoilEntries(l[i].L)
		spoilNodes(l[i].R.Nodes)
		l[i] = api.Msg{Kind: api.Beat, From: 77}
	}
}

// spoilResults overwrites all that the calls of a chief return.
func spoilResults(c *chief.Chief) {
	spoilMsgs(c.Tick())
	_, r := c.Epoch()
	spoilNodes(r.Nodes)
	_, r = c.Next()
	spoilNodes(r.Nodes)
	spoil(c.Disk().Bytes())
	c.Disk().Replace(nil)
}

// The numbers of a change are neither sorted nor kept.
func TestNodesAreNotRetained(t *testing.T) {
	c := chiefAt(t, 1, 1, 1)
	replicas(t, c, 4)
	nodes := []int{5, 2, 4, 3, 1}
	changes(t, c, api.OK, nodes[:3]...)
	if !slices.Equal(nodes, []int{5, 2, 4, 3, 1}) {
		t.Errorf("the nodes are %v", nodes)
	}
	spoilNodes(nodes)
	stands(t, "Change", c, api.Installing, term{}, term{1, ringOf(1, 1, 2, 4, 5)})
	ticks(t, "Change", c, emptyOf(1, 1, 2, 4, 5)...)
	c = crashed(t, c, 0)
	stands(t, "Crash", c, api.Installing, term{}, term{1, ringOf(1, 1, 2, 4, 5)})
}

// Nor are the entries of a dump.
func TestMessagesAreNotRetained(t *testing.T) {
	c := sealing(t, 2)
	l := []api.Entry{put("k", 2, "first"), put("a", 1, "second"), put("z", 1, "third")}
	m := part(3, 1, true, l[:2]...)
	handles(t, c, m)
	if l[0].Key != "k" || string(l[1].Val.B) != "second" || l[2].Key != "z" {
		t.Errorf("the entries are %v", l)
	}
	spoilEntries(l)
	l = []api.Entry{put("b", 2, "fourth"), put("c", 1, "fifth")}
	handles(t, c, part(3, 0, false, l...))
	spoilEntries(l)
	l = []api.Entry{put("k", 1, "sixth")}
	handles(t, c, part(2, 0, true, l...))
	spoilEntries(l)
	installs(t, "spoilt", c, 2, put("a", 1, "second"), put("b", 2, "fourth"), put("c", 1, "fifth"), put("k", 2, "first"))
}

// Whatever is done to results, the chief is the same.
func TestResultsAreNew(t *testing.T) {
	c := sealing(t, 2)
	issue(t, c, api.Agent, api.Agent)
	was, next := term{1, ringOf(1, 3, 2, 3, 4)}, term{2, ringOf(1, 3, 4, 5, 6)}
	news := []api.Msg{newsOf(7, 1, was.ring), newsOf(8, 1, was.ring)}
	l := []api.Entry{put("a", 1, "one"), put("b", 2, "two"), put("c", 3, "three")}
	for range 2 {
		spoilResults(c)
		stands(t, "Sealing", c, api.Sealing, was, next)
		ticks(t, "Sealing", c, append(sealsOf(2, 2, 2, 3, 4), news...)...)
	}
	handles(t, c, part(2, 0, true, l...), part(3, 0, true))
	for range 2 {
		spoilResults(c)
		stands(t, "Installing", c, api.Installing, was, next)
		var want []api.Msg
		for n := 4; n < 7; n++ {
			want = append(want, installOf(n, 2, 2, 0, false, l[:2]...), installOf(n, 2, 2, 1, true, l[2:]...))
		}
		ticks(t, "Installing", c, append(want, news...)...)
	}
	ready(t, c, 4, 6)
	for range 2 {
		spoilResults(c)
		stands(t, "Idle", c, api.Idle, next, next)
		ticks(t, "Idle", c, installOf(5, 2, 2, 0, false, l[:2]...), installOf(5, 2, 2, 1, true, l[2:]...), newsOf(7, 2, next.ring), newsOf(8, 2, next.ring))
	}
	c = crashed(t, c, 0)
	spoilResults(c)
	stands(t, "Crash", c, api.Idle, next, next)
	ticks(t, "Crash", c, newsOf(7, 2, next.ring), newsOf(8, 2, next.ring))
}

// No two lists of one Tick share memory.
func TestResultsShareNothing(t *testing.T) {
	c := sealing(t, 2)
	issue(t, c, api.Agent, api.Agent)
	handles(t, c, part(2, 0, true, put("a", 1, "one"), put("b", 2, "two"), put("c", 3, "three")), part(3, 0, true))
	want := c.Tick()
	for i := range want {
		l := c.Tick()
		spoilEntries(l[i].L)
		spoilNodes(l[i].R.Nodes)
		for j := range want {
			if i != j && !sameMsg(l[j], want[j]) {
				t.Errorf("%v, not %v", l[j], want[j])
			}
		}
	}
	_, r := c.Epoch()
	_, s := c.Epoch()
	spoilNodes(r.Nodes)
	if !slices.Equal(s.Nodes, []int{2, 3, 4}) {
		t.Errorf("the nodes are %v", s.Nodes)
	}
}

// Chiefs know nothing of each other.
func TestChiefsAreIndependent(t *testing.T) {
	a, b := chiefAt(t, 1, 1, 1), chiefAt(t, 1, 1, 1)
	replicas(t, a, 3)
	established(t, a, 2, 4)
	stands(t, "the other", b, api.Idle, term{}, term{})
	wrote(t, "the other", b)
	replicas(t, b, 1)
	changes(t, b, api.ErrArg, 3)
	if a.Issued() != 3 || b.Issued() != 1 {
		t.Errorf("%d and %d issued", a.Issued(), b.Issued())
	}
}
