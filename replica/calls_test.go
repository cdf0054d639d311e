package replica_test

import (
	"slices"
	"strconv"
	"strings"
	"testing"

	"icehouse/api"
	"icehouse/replica"
)

// act is a call, of the node and of the paper. It returns the node that goes on, and what
// is sent.
type act struct {
	name string
	do   func(n *replica.Node) (*replica.Node, []api.Msg)
	want func(p *paper) []api.Msg
}

func nameOf(m api.Msg) string {
	name := "kind " + strconv.Itoa(m.Kind) + " epoch " + strconv.Itoa(m.Epoch) + " op " + strconv.Itoa(m.Op) + " n " + strconv.Itoa(m.N) + " " + strconv.FormatBool(m.Flag)
	for _, e := range append(slices.Clone(m.L), m.E) {
		name += " " + e.Key + strconv.Itoa(e.Tag.Seq)
	}
	return name
}

func handleOf(m api.Msg) act {
	return act{
		nameOf(m),
		func(n *replica.Node) (*replica.Node, []api.Msg) { return n, n.Handle(m) },
		func(p *paper) []api.Msg { return p.handle(m) },
	}
}

func tickOf() act {
	return act{
		"Tick",
		func(n *replica.Node) (*replica.Node, []api.Msg) { return n, n.Tick() },
		func(p *paper) []api.Msg { return p.tick() },
	}
}

// spoilNode brings a node that nothing is asked of any more to where it would not be.
func spoilNode(n *replica.Node) {
	for _, c := range n.Cells() {
		n.Handle(flushedOf(put(c.E.Key, 999, "")))
	}
	for op := range 3 {
		n.Handle(installOf(2, 1, op, op == 2, put("z", 99, "?")))
		n.Handle(installOf(77, 7, op, op == 2, put("y", 99, "?")))
	}
	n.Tick()
	n.Handle(keepOf(77, put("a", 999, "?")))
	n.Handle(keepOf(77, put("b", 999, "?")))
	n.Tick()
	n.Handle(sealOf(88, 8))
	n.Handle(installOf(99, 9, 1, false))
}

// copyOf goes on with a copy, or with the node itself, while the other one is spoilt.
func copyOf(goOn bool) act {
	name := "Copy that is left"
	if goOn {
		name = "Copy"
	}
	return act{
		name,
		func(n *replica.Node) (*replica.Node, []api.Msg) {
			c := n.Copy()
			if goOn {
				n, c = c, n
			}
			spoilNode(c)
			return n, nil
		},
		func(p *paper) []api.Msg { return nil },
	}
}

// acts: messages of epochs 0 to 3 and tries 0 to 2, in any order, also such as no chief
// sends.
func acts() []act {
	out := []act{tickOf(), copyOf(true), copyOf(false)}
	add := func(l ...api.Msg) {
		for _, m := range l {
			out = append(out, handleOf(m))
		}
	}
	a, b, c := put("a", 2, "x"), gone("b", 1), put("c", 3, "yz")
	for _, epoch := range []int{1, 2, 3} {
		add(
			installOf(epoch, 1, 0, true, a, b), installOf(epoch, 1, 0, false, b), installOf(epoch, 1, 1, true, c), installOf(epoch, 2, 0, true),
			sealOf(epoch, 0), sealOf(epoch, 1), sealOf(epoch, 2),
		)
	}
	add(installOf(0, 9, 0, true, a), sealOf(0, 9), installOf(2, 1, 1, false, unwritten("d"), a), installOf(2, 0, 0, true, put("d", 1, "")))
	add(flushedOf(a), flushedOf(put("b", 9, "")))
	for _, epoch := range []int{1, 2} {
		add(askOf(epoch, "a"), keepOf(epoch, put("a", 5, "v")), keepOf(epoch, gone("d", 1)), fillOf(epoch, put("c", 1, "w"), epoch), fillOf(epoch, put("c", 9, "w"), epoch))
	}
	add(keepOf(1, unwritten("a")), keepOf(0, a), fillOf(0, a, 0))
	return out
}

// rows calls do with each row of up to so many acts.
func rows(l []act, most int, do func(row []act)) {
	var longer func(row []act)
	longer = func(row []act) {
		do(row)
		if len(row) == most {
			return
		}
		for _, a := range l {
			longer(append(row[:len(row):len(row)], a))
		}
	}
	longer(nil)
}

// play holds a node against the paper: what each call answers, and all of it at the end.
func play(t *testing.T, place api.Place, row []act) {
	t.Helper()
	n, p := nodeAt(t, place), paperAt(t, place)
	for i, a := range row {
		next, got := a.do(n)
		if want := a.want(p); !sameMsgs(got, want) {
			t.Errorf("%s: %v, not %v", namesOf(row[:i+1]), got, want)
		}
		n = next
	}
	p.agrees(t, namesOf(row), n)
	if got, want := n.Tick(), p.tick(); !sameMsgs(got, want) {
		t.Errorf("%s: Tick: %v, not %v", namesOf(row), got, want)
	}
}

func namesOf(row []act) string {
	name := "New"
	for _, a := range row {
		name += ", " + a.name
	}
	return name
}

func places() []api.Place {
	return []api.Place{placeOf(4, 99, 1, 2), placeOf(2, 7, 2, 1)}
}

func TestRowsOfCalls(t *testing.T) {
	for _, p := range places() {
		rows(acts(), 3, func(row []act) { play(t, p, row) })
	}
}

// The same behind what has to be there before.
func TestLaterRowsOfCalls(t *testing.T) {
	a, b := put("a", 2, "x"), gone("b", 1)
	for _, before := range [][]api.Msg{
		{installOf(1, 1, 0, true, a, b), keepOf(1, put("c", 3, "yz")), flushedOf(b)},
		{installOf(1, 1, 0, true, a, b), sealOf(2, 1), installOf(2, 1, 1, true, put("c", 3, "yz"))},
		{installOf(2, 1, 1, true, a), sealOf(2, 1), installOf(2, 1, 0, false, b), keepOf(2, gone("d", 1)), flushedOf(a)},
	} {
		var first []act
		for _, m := range before {
			first = append(first, handleOf(m))
		}
		for _, p := range places() {
			rows(acts(), 2, func(row []act) { play(t, p, slices.Concat(first, row)) })
		}
	}
}

// Rows of the acts that lead from epoch to epoch.
func TestRowsOfEpochs(t *testing.T) {
	var l []act
	for _, m := range []api.Msg{
		installOf(1, 1, 0, true, put("a", 1, "")), installOf(2, 1, 0, false), installOf(2, 1, 1, true, gone("b", 1)), installOf(2, 2, 0, true), installOf(3, 1, 0, true),
		sealOf(1, 1), sealOf(2, 1), sealOf(2, 2), sealOf(3, 1),
	} {
		l = append(l, handleOf(m))
	}
	rows(l, 5, func(row []act) { play(t, placeOf(4, 99, 1, 2), row) })
}

// dice is a row of numbers that look as if they came by chance.
type dice uint64

func (d *dice) below(n int) int {
	*d = *d*6364136223846793005 + 1442695040888963407
	return int(uint64(*d) >> 33 % uint64(n))
}

func someEntry(d *dice) api.Entry {
	key := string(rune('a' + d.below(7)))
	if d.below(4) == 0 {
		return gone(key, d.below(20)+1)
	}
	return put(key, d.below(20)+1, strings.Repeat("v", d.below(5)))
}

// someMsg goes with the epochs that the paper has, mostly.
func someMsg(d *dice, p *paper) api.Msg {
	epoch, e := p.epoch, someEntry(d)
	if d.below(8) == 0 {
		epoch += d.below(3) - 1
	}
	epoch = max(epoch, 0)
	switch d.below(12) {
	case 0, 1, 2:
		return askOf(epoch, e.Key)
	case 3, 4, 5:
		return keepOf(epoch, e)
	case 6, 7:
		token := slices.Max(p.table.Tokens())
		return fillOf(epoch, e, max(token-d.below(2), 0))
	case 8, 9:
		return flushedOf(e)
	case 10:
		return sealOf(epoch+d.below(3), d.below(4))
	}
	var l []api.Entry
	for range d.below(4) {
		l = append(l, someEntry(d))
	}
	return installOf(epoch+d.below(3), d.below(4), d.below(3), d.below(3) == 0, l...)
}

// wrongly spoils a message, so that it is not for the node.
func wrongly(d *dice, m api.Msg) api.Msg {
	switch d.below(5) {
	case 0:
		m.To = []int{api.Chief, api.Depot, node - 1, node + 1, -node}[d.below(5)]
	case 1:
		m.Kind = d.below(40) - 10
	case 2:
		m.R.Each++
	case 3:
		m.Op = -1 - m.Op
	case 4:
		m.From = []int{api.Chief, api.Depot, asker, node, -1}[d.below(5)]
	}
	return m
}

// Long rows, in places of all kinds. No entry goes that the store may not have, unless by
// a newer one of its key; and while the node is sealed none goes at all, unless an epoch
// is to be installed.
func TestLongRows(t *testing.T) {
	d := dice(5)
	for range 150 {
		place := placeOf(d.below(7)+1, d.below(30)+1, d.below(3)+1, d.below(3)+1)
		place.Room.Buckets, place.Room.Fresh = d.below(3)+1, d.below(2) == 0
		n, p := nodeAt(t, place), paperAt(t, place)
		for range 600 {
			a := handleOf(someMsg(&d, p))
			switch d.below(12) {
			case 0, 1:
				a = tickOf()
			case 2:
				a = copyOf(d.below(2) == 0)
			case 3:
				a = handleOf(wrongly(&d, someMsg(&d, p)))
			}
			before, mode := n.Cells(), n.Mode()
			next, got := a.do(n)
			if want := a.want(p); !sameMsgs(got, want) {
				t.Fatalf("%s: %v, not %v", a.name, got, want)
			}
			sends(t, a.name, got, got...)
			n = next
			p.agrees(t, a.name, n)
			stays(t, a.name, before, n.Cells(), mode == api.Sealed && !strings.HasPrefix(a.name, "kind 14 "))
		}
	}
}

func stays(t *testing.T, name string, before, after []api.Cell, all bool) {
	t.Helper()
	for _, c := range before {
		i := slices.IndexFunc(after, func(x api.Cell) bool { return x.E.Key == c.E.Key })
		if (all || !c.Clean) && (i < 0 || after[i].E.Tag.Seq < c.E.Tag.Seq) || all && !sameEntry(after[i].E, c.E) {
			t.Errorf("%s: %v is gone", name, c.E)
		}
	}
}
