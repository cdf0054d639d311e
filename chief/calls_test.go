package chief_test

import (
	"slices"
	"strconv"
	"strings"
	"testing"

	"icehouse/api"
	"icehouse/chief"
)

// both is a chief, and the paper that it is held against.
type both struct {
	c *chief.Chief
	p *paper
}

func bothAt(t *testing.T, each, keep, chunk int) both {
	t.Helper()
	return both{chiefAt(t, each, keep, chunk), &paper{each: each, keep: keep, chunk: chunk, does: "idles"}}
}

// act is a call of both. It returns those that go on.
type act struct {
	name string
	do   func(t *testing.T, x both) both
}

func issueAct(role int) act {
	return act{"Issue " + strconv.Itoa(role), func(t *testing.T, x both) both {
		n, e := x.c.Issue(role)
		if want, wantE := x.p.issue(role); n != want || e != wantE {
			t.Errorf("Issue(%d): %d and error %d, not %d and %d", role, n, e, want, wantE)
		}
		return x
	}}
}

func changeAct(nodes ...int) act {
	name := "Change"
	for _, n := range nodes {
		name += " " + strconv.Itoa(n)
	}
	return act{name, func(t *testing.T, x both) both {
		changes(t, x.c, x.p.change(nodes), nodes...)
		return x
	}}
}

func nameOf(m api.Msg) string {
	name := "kind " + strconv.Itoa(m.Kind) + " from " + strconv.Itoa(m.From) + " part " + strconv.Itoa(m.Op)
	if m.Flag {
		name += ", the last"
	}
	for _, e := range m.L {
		name += " " + e.Key + strconv.Itoa(e.Tag.Seq)
	}
	return name
}

// handleAct is of the epoch that is decided then, and of the latest try, but for so much.
func handleAct(m api.Msg, epoch, try int) act {
	return act{nameOf(m) + " " + strconv.Itoa(epoch) + " " + strconv.Itoa(try), func(t *testing.T, x both) both {
		m.Epoch = x.p.decided().epoch + epoch
		if m.Kind == api.Dump {
			m.N = x.p.try() + try
		}
		handles(t, x.c, m)
		x.p.handle(m)
		return x
	}}
}

// spoilChief brings a chief that nothing is asked of any more to where it would not be.
func spoilChief(c *chief.Chief) {
	c.Issue(api.Agent)
	n, _ := c.Issue(api.Replica)
	for range 2 {
		epoch, r := c.Next()
		_, was := c.Epoch()
		for try := range 12 {
			for _, from := range was.Nodes {
				c.Handle(dumpOf(from, epoch, try, 0, true, put("spoilt", 9, "#")))
			}
		}
		spoilResults(c)
		for _, from := range r.Nodes {
			c.Handle(readyOf(from, epoch))
		}
		c.Change(slices.Repeat([]int{n}, 1)...)
	}
}

// crashAct goes on with what is found after a crash, or with what crashed, while the other
// one is spoilt.
func crashAct(goOn bool, kept int) act {
	name := "Crash that is left"
	if goOn {
		name = "Crash"
	}
	return act{name + " " + strconv.Itoa(kept), func(t *testing.T, x both) both {
		q, want := x.p.crash(kept)
		d, e := x.c.Crash(kept)
		if e != want || (d == nil) != (want != api.OK) {
			t.Errorf("Crash(%d): error %d, not %d", kept, e, want)
		}
		switch {
		case d == nil:
			return x
		case goOn:
			spoilChief(x.c)
			return both{d, q}
		}
		spoilChief(d)
		return x
	}}
}

// acts lead from epoch to epoch of the nodes 2 to 5, and aside.
func acts() []act {
	dump := func(from, op int, last bool, l ...api.Entry) api.Msg { return dumpOf(from, 0, 0, op, last, l...) }
	out := []act{
		issueAct(api.Replica), issueAct(api.Agent), issueAct(0),
		changeAct(), changeAct(3, 2), changeAct(2, 3, 4), changeAct(4, 5), changeAct(3, 3), changeAct(2, 9),
		crashAct(true, 0), crashAct(false, 7), crashAct(true, -1),
		handleAct(dump(2, 0, true, put("a", 1, "x"), gone("k", 2)), 0, 0), handleAct(dump(2, 1, true, put("a", 3, "y")), 0, 0),
		handleAct(dump(3, 0, false, put("a", 2, "z"), unwritten("b"), put("k", 1, "")), 0, 0), handleAct(dump(3, 1, true), 0, 0),
		handleAct(dump(4, 0, true, put("a", 1, "w")), 0, 0), handleAct(dump(5, 0, true), 0, 0),
		handleAct(dump(3, 0, true), 0, -1), handleAct(dump(3, 0, true), -1, 0), handleAct(dump(9, 0, true), 0, 0),
	}
	for from := 2; from < 6; from++ {
		out = append(out, handleAct(readyOf(from, 0), 0, 0))
	}
	return append(out, handleAct(readyOf(3, 0), -1, 0), handleAct(readyOf(9, 0), 0, 0))
}

// rows calls do with each row of up to so many acts.
func rows(l []act, most int, do func(row []act)) {
	var longer func(row []act)
	longer = func(row []act) {
		do(row)
		if len(row) == most {
			return
		}
		for _, a := range l {
			longer(append(row[:len(row):len(row)], a))
		}
	}
	longer(nil)
}

// play holds a chief against the paper after a row of acts.
func play(t *testing.T, x both, row []act) {
	t.Helper()
	name := "New"
	for _, a := range row {
		name += ", " + a.name
		x = a.do(t, x)
	}
	x.p.agrees(t, name, x.c)
}

// Rows from where the chief is new, and from where it is in the midst of something.
func TestRowsOfCalls(t *testing.T) {
	four := slices.Repeat([]act{issueAct(api.Replica)}, 4)
	dump := func(from int, l ...api.Entry) act { return handleAct(dumpOf(from, 0, 0, 0, true, l...), 0, 0) }
	ready := func(from int) act { return handleAct(readyOf(from, 0), 0, 0) }
	first := slices.Concat(four, []act{changeAct(2, 3, 4)})
	idle := slices.Concat(first, []act{ready(2), ready(3), issueAct(api.Agent), ready(4)})
	sealing := slices.Concat(idle, []act{changeAct(3, 4, 5)})
	for i, before := range [][]act{
		four, sealing, nil, first, idle,
		slices.Concat(first, []act{ready(4), ready(3)}),
		slices.Concat(sealing, []act{dump(3, put("a", 2, "v"))}),
		slices.Concat(sealing, []act{dump(3, put("a", 2, "v"), put("c", 1, "v")), dump(4, put("b", 1, ""))}),
		slices.Concat(sealing, []act{dump(2, put("a", 2, "v")), crashAct(true, 0)}),
		slices.Concat(sealing, []act{dump(3, put("a", 2, "v")), dump(4), ready(5)}),
	} {
		for _, keep := range []int{1, 2} {
			rows(acts(), 2, func(row []act) { play(t, bothAt(t, 2, keep, 2), slices.Concat(before, row)) })
		}
		if i < 2 {
			rows(acts(), 3, func(row []act) { play(t, bothAt(t, 1, 2, 1), slices.Concat(before, row)) })
		}
	}
}

// Rows of one change, from the Change on.
func TestRowsOfOneChange(t *testing.T) {
	before := slices.Concat(slices.Repeat([]act{issueAct(api.Replica)}, 4), []act{changeAct(2, 3)})
	before = append(before, handleAct(readyOf(2, 0), 0, 0), handleAct(readyOf(3, 0), 0, 0), changeAct(3, 4, 5))
	l := []act{
		handleAct(dumpOf(2, 0, 0, 0, true, put("a", 1, "x")), 0, 0), handleAct(dumpOf(3, 0, 0, 1, true, put("a", 1, "y")), 0, 0),
		handleAct(dumpOf(3, 0, 0, 0, false, put("b", 2, "")), 0, 0), handleAct(dumpOf(3, 0, 0, 0, true, put("a", 2, "z")), 0, 0),
		handleAct(readyOf(3, 0), 0, 0), handleAct(readyOf(4, 0), 0, 0), crashAct(true, 0), changeAct(2, 5),
	}
	rows(l, 5, func(row []act) { play(t, bothAt(t, 1, 2, 3), slices.Concat(before, row)) })
}

// dice is a row of numbers that look as if they came by chance.
type dice uint64

func (d *dice) below(n int) int {
	*d = *d*6364136223846793005 + 1442695040888963407
	return int(uint64(*d) >> 33 % uint64(n))
}

func someEntries(d *dice) []api.Entry {
	var out []api.Entry
	for range d.below(6) {
		key := string(rune('a' + d.below(9)))
		switch d.below(6) {
		case 0:
			out = append(out, unwritten(key))
		case 1:
			out = append(out, gone(key, d.below(9)+1))
		default:
			out = append(out, put(key, d.below(9)+1, strings.Repeat("v", d.below(4))))
		}
	}
	return out
}

// someAct goes with what the chief is at, mostly.
func someAct(d *dice, p *paper) act {
	switch d.below(60) {
	case 0:
		return issueAct(d.below(4))
	case 1, 2:
		return issueAct(api.Replica)
	case 3:
		return crashAct(true, d.below(3))
	case 4:
		return crashAct(false, d.below(3))
	case 5:
		return crashAct(true, -1-d.below(3))
	case 6, 7:
		return changeAct(someNodes(d, p)...)
	}
	if p.does == "idles" && d.below(3) > 0 {
		return changeAct(someNodes(d, p)...)
	}
	m := readyOf(someNode(d, p.decided().ring), 0)
	if p.does == "seals" && d.below(10) > 0 {
		m = dumpOf(someNode(d, p.established().ring), 0, 0, d.below(3), d.below(2) == 0, someEntries(d)...)
	}
	epoch, try := 0, 0
	switch d.below(60) {
	case 0:
		m.To = []int{api.Depot, 2, 3, -1}[d.below(4)]
	case 1:
		m.Kind = d.below(40) - 10
	case 2:
		m.R.Each++
	case 3:
		m.Op = -1 - m.Op
	case 4, 5:
		epoch = d.below(3) - 1
	case 6, 7:
		try = d.below(3) - 1
	case 8:
		m.L = append(m.L, api.Entry{})
	}
	return handleAct(m, epoch, try)
}

func someNode(d *dice, r api.Ring) int {
	if len(r.Nodes) == 0 || d.below(10) == 0 {
		return d.below(12)
	}
	return r.Nodes[d.below(len(r.Nodes))]
}

func someNodes(d *dice, p *paper) []int {
	var out []int
	for n := range min(len(p.roles()), 12) {
		if d.below(2) == 0 && (p.roles()[n+2] == api.Replica || d.below(20) == 0) {
			out = append(out, n+2)
		}
	}
	if d.below(2) == 0 {
		slices.Reverse(out)
	}
	return out
}

// Long rows, with many epochs.
func TestLongRows(t *testing.T) {
	d := dice(17)
	most := 0
	for range 60 {
		x := bothAt(t, d.below(4)+1, d.below(4)+1, d.below(4)+1)
		for range 4 {
			x = issueAct(api.Replica).do(t, x)
		}
		for range 500 {
			a := someAct(&d, x.p)
			x = a.do(t, x)
			x.p.agrees(t, a.name, x.c)
			if t.Failed() {
				return
			}
		}
		most = max(most, x.p.established().epoch)
	}
	if most < 10 {
		t.Errorf("there were %d epochs", most)
	}
}
