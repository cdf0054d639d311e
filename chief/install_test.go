package chief_test

import (
	"slices"
	"testing"

	"icehouse/api"
	"icehouse/chief"
	"icehouse/ring"
)

// sealing returns a chief that asks the nodes 2, 3 and 4, all of which keep each key, in the
// try 2, what they have; the next ring is of 4, 5 and 6.
func sealing(t *testing.T, chunk int) *chief.Chief {
	t.Helper()
	c := chiefAt(t, 1, 3, chunk)
	replicas(t, c, 5)
	established(t, c, 2, 3, 4)
	changes(t, c, api.OK, 6, 5, 4)
	stands(t, "Change", c, api.Sealing, term{1, ringOf(1, 3, 2, 3, 4)}, term{2, ringOf(1, 3, 4, 5, 6)})
	return c
}

func part(from, op int, last bool, l ...api.Entry) api.Msg { return dumpOf(from, 2, 2, op, last, l...) }

// lacks: the nodes that have not dumped are asked once more.
func lacks(t *testing.T, name string, c *chief.Chief, nodes ...int) {
	t.Helper()
	if c.Phase() != api.Sealing {
		t.Errorf("%s: the phase is %d", name, c.Phase())
	}
	ticks(t, name, c, sealsOf(2, 2, nodes...)...)
}

// installs: these entries are due to each node of the next ring, in messages of so many.
func installs(t *testing.T, name string, c *chief.Chief, chunk int, l ...api.Entry) {
	t.Helper()
	var want []api.Msg
	for n := 4; n < 7; n++ {
		for i := 0; i == 0 || i < len(l); i += chunk {
			end := min(i+chunk, len(l))
			want = append(want, installOf(n, 2, 2, i/chunk, end == len(l), l[i:end]...))
		}
	}
	if c.Phase() != api.Installing {
		t.Errorf("%s: the phase is %d", name, c.Phase())
	}
	ticks(t, name, c, want...)
}

// Of three nodes two are enough.
func TestSealing(t *testing.T) {
	c := sealing(t, 2)
	lacks(t, "none", c, 2, 3, 4)
	handles(t, c, part(3, 0, true, put("k", 1, "x")))
	lacks(t, "one", c, 2, 4)
	handles(t, c, part(3, 0, true, put("k", 1, "x")))
	lacks(t, "one twice", c, 2, 4)
	handles(t, c, part(5, 0, true, put("k", 9, "x")), part(6, 0, true))
	lacks(t, "those of the next ring", c, 2, 4)
	handles(t, c, part(4, 0, true, put("k", 2, "y")))
	installs(t, "two", c, 2, put("k", 2, "y"))
	handles(t, c, part(2, 0, true, put("k", 3, "z"), put("a", 1, "")))
	installs(t, "too late", c, 2, put("k", 2, "y"))
}

// A node has dumped when its last part is known, and all of them are there.
func TestPartsOfDumps(t *testing.T) {
	x := func(n int) api.Entry { return put("k", n, "v") }
	for _, row := range []struct {
		name string
		l    []api.Msg
		done bool
	}{
		{"no part", nil, false},
		{"a part that is not the last one", []api.Msg{part(2, 0, false)}, false},
		{"the last one", []api.Msg{part(2, 0, true)}, true},
		{"the first is missing", []api.Msg{part(2, 1, true)}, false},
		{"both", []api.Msg{part(2, 1, true), part(2, 0, false)}, true},
		{"both in order", []api.Msg{part(2, 0, false), part(2, 1, true)}, true},
		{"the last one is not known", []api.Msg{part(2, 0, false), part(2, 1, false), part(2, 2, false)}, false},
		{"one between is missing", []api.Msg{part(2, 0, false), part(2, 2, true), part(2, 3, false)}, false},
		{"all, downwards", []api.Msg{part(2, 3, true), part(2, 2, false), part(2, 1, false), part(2, 0, false)}, true},
		{"one is there twice", []api.Msg{part(2, 0, false), part(2, 0, false), part(2, 2, true)}, false},
		{"the last one once more, not as such", []api.Msg{part(2, 1, true), part(2, 1, false), part(2, 0, false)}, true},
		{"two last ones, the greater later", []api.Msg{part(2, 0, true), part(2, 2, true)}, false},
		{"two last ones, the less later", []api.Msg{part(2, 2, true), part(2, 0, true)}, true},
		{"three last ones", []api.Msg{part(2, 2, true), part(2, 0, true), part(2, 3, true)}, false},
		{"one that is far behind", []api.Msg{part(2, api.MaxSeq, true), part(2, 0, false)}, false},
		{"as many as need be, but not the right ones", []api.Msg{part(2, 1, true), part(2, 2, false), part(2, 3, false)}, false},
		{"greater ones do not matter", []api.Msg{part(2, api.MaxSeq, false), part(2, 7, false), part(2, 0, true)}, true},
		{"of another node", []api.Msg{part(2, 1, true), part(3, 0, false)}, false},
	} {
		c := sealing(t, 2)
		handles(t, c, row.l...)
		handles(t, c, part(4, 0, true, x(1)))
		if !row.done {
			lacks(t, row.name, c, 2, 3)
			continue
		}
		installs(t, row.name, c, 2, x(1))
		c = sealing(t, 2)
		handles(t, c, part(4, 0, true, x(1)))
		handles(t, c, row.l...)
		installs(t, row.name, c, 2, x(1))
	}
}

// A node that has dumped has not any more, when there are more parts.
func TestDumpThatGrows(t *testing.T) {
	c := sealing(t, 5)
	handles(t, c, part(2, 0, true, put("a", 1, "")))
	lacks(t, "it has", c, 3, 4)
	handles(t, c, part(2, 2, true, put("b", 1, "")))
	lacks(t, "it has not", c, 2, 3, 4)
	handles(t, c, part(4, 0, true, put("c", 1, "")))
	lacks(t, "another one has", c, 2, 3)
	handles(t, c, part(2, 1, false, put("d", 1, "")))
	installs(t, "both have", c, 5, put("a", 1, ""), put("b", 1, ""), put("c", 1, ""), put("d", 1, ""))
}

// A dump is enough again when it has become shorter, but only a message tells so.
func TestDumpThatShrinks(t *testing.T) {
	c := sealing(t, 5)
	handles(t, c, part(2, 1, true, put("a", 1, "")), part(4, 0, true))
	lacks(t, "it has not", c, 2, 3)
	handles(t, c, part(2, 0, true, put("b", 1, "")))
	installs(t, "it has", c, 5, put("b", 1, ""))
}

// What is collected of parts: that of all up to the last one, of those that were sent again
// the later.
func TestEntriesOfParts(t *testing.T) {
	c := sealing(t, 3)
	handles(t, c,
		part(4, 0, false, put("a", 1, "1")), part(4, 3, false, put("z", 9, "")), part(4, 1, true, put("b", 2, "2")),
		part(4, 0, false, put("c", 3, "3")), part(2, 2, true, put("d", 1, "")), part(2, 1, false, put("e", 5, "5"), put("f", 6, "6")),
		part(3, 0, false, put("y", 9, "")), part(2, 3, false, put("x", 9, "")), part(2, 1, false, put("f", 4, "4")),
	)
	lacks(t, "all but one", c, 2, 3)
	handles(t, c, part(2, 0, false))
	installs(t, "all", c, 3, put("b", 2, "2"), put("c", 3, "3"), put("d", 1, ""), put("f", 4, "4"))
}

// The greatest tag is the one that counts, whoever has it; a key that was only asked for
// has an entry, too.
func TestNewestIsCollected(t *testing.T) {
	tagged := func(seq, who, op int, v string) api.Entry {
		e := put("k", seq, v)
		e.Tag.Who, e.Tag.Op = who, op
		return e
	}
	for _, row := range []struct {
		name string
		a, b []api.Entry
		want []api.Entry
	}{
		{name: "nothing"},
		{name: "one", a: []api.Entry{put("k", 1, "x")}, want: []api.Entry{put("k", 1, "x")}},
		{name: "the first is newer", a: []api.Entry{put("k", 2, "x")}, b: []api.Entry{put("k", 1, "y")}, want: []api.Entry{put("k", 2, "x")}},
		{name: "the second is newer", a: []api.Entry{put("k", 1, "x")}, b: []api.Entry{put("k", 2, "y")}, want: []api.Entry{put("k", 2, "y")}},
		{name: "who is greater", a: []api.Entry{tagged(1, 3, 9, "x")}, b: []api.Entry{tagged(1, 4, 1, "y")}, want: []api.Entry{tagged(1, 4, 1, "y")}},
		{name: "op is greater", a: []api.Entry{tagged(1, 3, 9, "x")}, b: []api.Entry{tagged(1, 3, 8, "y")}, want: []api.Entry{tagged(1, 3, 9, "x")}},
		{name: "a deletion", a: []api.Entry{put("k", 1, "x")}, b: []api.Entry{gone("k", 2)}, want: []api.Entry{gone("k", 2)}},
		{name: "after a deletion", a: []api.Entry{gone("k", 1)}, b: []api.Entry{put("k", 2, "")}, want: []api.Entry{put("k", 2, "")}},
		{name: "unwritten", a: []api.Entry{unwritten("k"), unwritten("b")}, b: []api.Entry{unwritten("k"), put("b", 1, "x")}, want: []api.Entry{put("b", 1, "x"), unwritten("k")}},
		{name: "unwritten later", a: []api.Entry{put("k", 1, "x")}, b: []api.Entry{unwritten("k")}, want: []api.Entry{put("k", 1, "x")}},
		{name: "as new, the first one", a: []api.Entry{put("k", 1, "x")}, b: []api.Entry{put("k", 1, "y")}, want: []api.Entry{put("k", 1, "x")}},
		{name: "as new in one part", a: []api.Entry{put("k", 1, "x"), put("k", 1, "y"), gone("k", 1)}, want: []api.Entry{put("k", 1, "x")}},
		{name: "twice in one part", a: []api.Entry{put("k", 2, "x"), put("k", 3, "y"), put("k", 1, "z")}, want: []api.Entry{put("k", 3, "y")}},
		{name: "bytewise", a: []api.Entry{put("b", 1, ""), put("\xff", 1, ""), put("ab", 1, "")}, b: []api.Entry{put("a", 1, ""), put("\x00", 1, ""), put("é", 1, "")},
			want: []api.Entry{put("\x00", 1, ""), put("a", 1, ""), put("ab", 1, ""), put("b", 1, ""), put("é", 1, ""), put("\xff", 1, "")}},
	} {
		// The order in which they come does not matter.
		l := []api.Msg{part(3, 0, true, row.a...), part(4, 0, true, row.b...)}
		for range 2 {
			c := sealing(t, 64)
			handles(t, c, l...)
			installs(t, row.name, c, 64, row.want...)
			slices.Reverse(l)
		}
	}
}

// Of several with the same tag it is the first in the order of nodes, and then of parts.
func TestFirstIsCollected(t *testing.T) {
	l := []api.Msg{
		part(2, 0, false, put("a", 1, "2 0")),
		part(2, 1, true, put("a", 1, "2 1"), put("b", 1, "2 1"), put("c", 1, "2 1")),
		part(4, 0, false, put("b", 1, "4 0"), put("d", 2, "4 0")),
		part(4, 1, false, put("c", 2, "4 1"), put("d", 2, "4 1")),
		part(4, 2, true, put("c", 2, "4 2"), put("d", 2, "4 2")),
	}
	orders(len(l), func(order []int) {
		c := sealing(t, 2)
		for _, i := range order {
			handles(t, c, l[i])
		}
		installs(t, "any order", c, 2, put("a", 1, "2 0"), put("b", 1, "2 1"), put("c", 2, "4 1"), put("d", 2, "4 0"))
	})
}

// orders calls do with each order of 0 to n - 1.
func orders(n int, do func(order []int)) {
	var more func(order []int)
	more = func(order []int) {
		if len(order) == n {
			do(order)
		}
		for i := range n {
			if !slices.Contains(order, i) {
				more(append(order[:len(order):len(order)], i))
			}
		}
	}
	more(nil)
}

func TestChunks(t *testing.T) {
	for n := range 14 {
		var l []api.Entry
		for i := range n {
			l = append(l, put(string(rune('a'+i)), 1, "v"))
		}
		for chunk := 1; chunk < 9; chunk++ {
			c := sealing(t, chunk)
			handles(t, c, part(2, 0, true, l...), part(3, 0, true))
			installs(t, "chunks", c, chunk, l...)
		}
	}
}

// Each node is given what it keeps, and nothing else.
func TestInstallsGoToKeepers(t *testing.T) {
	for _, chunk := range []int{1, 2, 64} {
		c := chiefAt(t, 2, 2, chunk)
		replicas(t, c, 7)
		established(t, c, 2, 3)
		changes(t, c, api.OK, 3, 5, 6, 7, 8)
		var l []api.Entry
		for i := range 60 {
			l = append(l, put(string(rune('0'+i)), i+1, "v"))
		}
		handles(t, c, part(3, 0, true, l[:40]...), part(2, 1, true, l[30:]...), part(2, 0, false, l[:5]...))
		next := ringOf(2, 2, 3, 5, 6, 7, 8)
		var want []api.Msg
		for _, n := range next.Nodes {
			mine := slices.DeleteFunc(slices.Clone(l), func(e api.Entry) bool {
				keepers, _ := ring.Keepers(next, e.Key)
				return !slices.Contains(keepers, n)
			})
			for i := 0; i == 0 || i < len(mine); i += chunk {
				end := min(i+chunk, len(mine))
				want = append(want, installOf(n, 2, 2, i/chunk, end == len(mine), mine[i:end]...))
			}
		}
		ticks(t, "Installing", c, want...)
		ticks(t, "once more", c, want...)
		ready(t, c, 6)
		want = slices.DeleteFunc(want, func(m api.Msg) bool { return m.To == 6 })
		ticks(t, "one is ready", c, want...)
	}
}

// Nodes that are ready are not told any more; the others are, when the epoch is established,
// too, until the next change.
func TestReady(t *testing.T) {
	c := sealing(t, 3)
	was, next := term{1, ringOf(1, 3, 2, 3, 4)}, term{2, ringOf(1, 3, 4, 5, 6)}
	x := put("k", 1, "x")
	handles(t, c, part(2, 0, true, x), part(4, 0, true))
	ready(t, c, 5)
	stands(t, "one", c, api.Installing, was, next)
	ticks(t, "one", c, installOf(4, 2, 2, 0, true, x), installOf(6, 2, 2, 0, true, x))
	before := recordsOf(t, c)
	ready(t, c, 5, 2, 3, 5, 7)
	stands(t, "the same one", c, api.Installing, was, next)
	wrote(t, "the same one", c, before...)
	ready(t, c, 6)
	stands(t, "two", c, api.Idle, next, next)
	wrote(t, "two", c, append(before, record(3, 2))...)
	ticks(t, "two", c, installOf(4, 2, 2, 0, true, x))
	ready(t, c, 6, 5, 3)
	ticks(t, "the same two", c, installOf(4, 2, 2, 0, true, x))
	wrote(t, "the same two", c, append(before, record(3, 2))...)
	ready(t, c, 4)
	stands(t, "three", c, api.Idle, next, next)
	ticks(t, "three", c)
	ready(t, c, 4, 5, 6)
	wrote(t, "three", c, append(before, record(3, 2))...)
	stands(t, "three", c, api.Idle, next, next)
}

// All lists of both rings have to be covered: with one keeper a key, all nodes have to be.
func TestAllListsAreCovered(t *testing.T) {
	c := chiefAt(t, 8, 1, 1)
	replicas(t, c, 4)
	changes(t, c, api.OK, 2, 3, 4)
	r := term{1, ringOf(8, 1, 2, 3, 4)}
	ready(t, c, 4, 2)
	stands(t, "two of three", c, api.Installing, term{}, r)
	ready(t, c, 3)
	stands(t, "all", c, api.Idle, r, r)
	changes(t, c, api.OK, 5)
	handles(t, c, part(2, 0, true), part(4, 0, true))
	stands(t, "two of three", c, api.Sealing, r, term{2, ringOf(8, 1, 5)})
	handles(t, c, part(3, 0, true))
	stands(t, "all", c, api.Installing, r, term{2, ringOf(8, 1, 5)})
}

// A message that came late, from an epoch or a try before, changes nothing.
func TestLateMessages(t *testing.T) {
	c := sealing(t, 3)
	handles(t, c, dumpOf(2, 1, 1, 0, true), readyOf(2, 1), readyOf(4, 1), dumpOf(4, 2, 1, 0, true))
	lacks(t, "of the epoch before", c, 2, 3, 4)
	c = crashed(t, c, 0)
	handles(t, c, part(2, 0, true), part(3, 0, true), part(4, 0, true))
	ticks(t, "of the try before", c, sealsOf(2, 3, 2, 3, 4)...)
	handles(t, c, dumpOf(2, 2, 3, 0, true), dumpOf(4, 2, 3, 0, true))
	ticks(t, "of this try", c, emptyOf(2, 3, 4, 5, 6)...)
}
