package chief_test

import (
	"slices"
	"strings"
	"testing"

	"icehouse/api"
	"icehouse/chief"
	"icehouse/msgs"
	"icehouse/ring"
)

// paper is what the chapter says of a chief, word by word: it keeps all that it was told, and
// works everything out of that whenever it is asked.
type paper struct {
	each, keep, chunk int
	records           [][]int // the kind, and the numbers
	does              string  // "idles", "seals" or "installs"
	told              []api.Msg
	ready             []int
	hasEntries        []api.Entry // that were collected
	tells             bool        // the nodes that are not ready
}

// roles are those of the numbers that were assigned.
func (p *paper) roles() map[int]int {
	out := map[int]int{}
	for _, r := range p.records {
		if r[0] == 2 {
			out[r[1]] = r[2]
		}
	}
	return out
}

func (p *paper) decided() term {
	var out term
	for _, r := range p.records {
		if r[0] == 1 {
			out = term{r[1], ringOf(r[2], r[3], r[4:]...)}
		}
	}
	return out
}

func (p *paper) established() term {
	var out, last term
	for _, r := range p.records {
		switch r[0] {
		case 1:
			last = term{r[1], ringOf(r[2], r[3], r[4:]...)}
		case 3:
			out = last
		}
	}
	return out
}

func (p *paper) try() int {
	n := 0
	for _, r := range p.records {
		if r[0] == 1 || r[0] == 4 {
			n++
		}
	}
	return n
}

func (p *paper) issue(role int) (int, api.Errno) {
	if role != api.Replica && role != api.Agent {
		return 0, api.ErrArg
	}
	n := len(p.roles()) + 2
	p.records = append(p.records, []int{2, n, role})
	return n, api.OK
}

func (p *paper) change(nodes []int) api.Errno {
	if p.does != "idles" || p.decided().epoch != p.established().epoch {
		return api.ErrBusy
	}
	sorted := slices.Clone(nodes)
	slices.Sort(sorted)
	for _, n := range sorted {
		if p.roles()[n] != api.Replica {
			return api.ErrArg
		}
	}
	if ring.Check(ringOf(p.each, p.keep, sorted...)) != api.OK {
		return api.ErrArg
	}
	p.records = append(p.records, append([]int{1, p.decided().epoch + 1, p.each, p.keep}, sorted...))
	p.start()
	return api.OK
}

// start is what a change and a crash have in common.
func (p *paper) start() {
	p.told, p.ready, p.hasEntries = nil, nil, nil
	if p.established().epoch > 0 {
		p.does, p.tells = "seals", false
	} else {
		p.does, p.tells = "installs", true
	}
}

// last is the number of the last part of a node's dump; -1, if it is not known.
func (p *paper) last(node int) int {
	last := -1
	for _, m := range p.told {
		if m.From == node && m.Flag {
			last = m.Op
		}
	}
	return last
}

// part returns the entries of one, and whether it was received.
func (p *paper) part(node, op int) ([]api.Entry, bool) {
	for _, m := range slices.Backward(p.told) {
		if m.From == node && m.Op == op {
			return m.L, true
		}
	}
	return nil, false
}

func (p *paper) dumped(node int) bool {
	last := p.last(node)
	if last < 0 {
		return false
	}
	for op := 0; op <= last; op++ {
		if _, has := p.part(node, op); !has {
			return false
		}
	}
	return true
}

// majorities reports whether more than half of each list of a ring are such nodes.
func majorities(r api.Ring, such func(node int) bool) bool {
	lists, e := ring.Lists(r)
	for _, l := range lists {
		n := 0
		for _, node := range l {
			if such(node) {
				n++
			}
		}
		if 2*n <= len(l) {
			return false
		}
	}
	return e == api.OK
}

func (p *paper) collect() {
	for _, node := range p.established().ring.Nodes {
		if !p.dumped(node) {
			continue
		}
		for op := 0; op <= p.last(node); op++ {
			l, _ := p.part(node, op)
			for _, e := range l {
				p.offer(e)
			}
		}
	}
	slices.SortFunc(p.hasEntries, func(a, b api.Entry) int { return strings.Compare(a.Key, b.Key) })
}

// offer takes an entry if it has a greater tag than what was collected of its key.
func (p *paper) offer(e api.Entry) {
	i := slices.IndexFunc(p.hasEntries, func(x api.Entry) bool { return x.Key == e.Key })
	switch {
	case i < 0:
		p.hasEntries = append(p.hasEntries, e)
	case slices.Compare([]int{e.Tag.Seq, e.Tag.Who, e.Tag.Op}, []int{p.hasEntries[i].Tag.Seq, p.hasEntries[i].Tag.Who, p.hasEntries[i].Tag.Op}) > 0:
		p.hasEntries[i] = e
	}
}

func (p *paper) handle(m api.Msg) {
	if msgs.Check(m) != api.OK || m.To != api.Chief || m.Epoch != p.decided().epoch {
		return
	}
	m = msgs.Copy(m)
	isOf := func(r api.Ring) bool { return slices.Contains(r.Nodes, m.From) }
	if m.Kind == api.Dump && p.does == "seals" && m.N == p.try() && isOf(p.established().ring) {
		p.told = append(p.told, m)
		if majorities(p.established().ring, p.dumped) {
			p.collect()
			p.does, p.tells, p.ready = "installs", true, nil
		}
	}
	if m.Kind == api.Ready && p.does != "seals" && isOf(p.decided().ring) {
		p.ready = append(p.ready, m.From)
		isReady := func(n int) bool { return slices.Contains(p.ready, n) }
		if majorities(p.decided().ring, isReady) && p.decided().epoch != p.established().epoch {
			p.records = append(p.records, []int{3, p.decided().epoch})
			p.does = "idles"
		}
	}
}

func (p *paper) tick() []api.Msg {
	var out []api.Msg
	d := p.decided()
	for _, n := range p.established().ring.Nodes {
		if p.does == "seals" && !p.dumped(n) {
			out = append(out, sealOf(n, d.epoch, p.try()))
		}
	}
	for _, n := range d.ring.Nodes {
		if p.tells && !slices.Contains(p.ready, n) {
			out = append(out, p.installs(n)...)
		}
	}
	for n := 2; n < len(p.roles())+2; n++ {
		if was := p.established(); was.epoch > 0 && p.roles()[n] == api.Agent {
			out = append(out, newsOf(n, was.epoch, was.ring))
		}
	}
	return out
}

func (p *paper) installs(node int) []api.Msg {
	d := p.decided()
	m := installOf(node, d.epoch, p.try(), 0, false)
	var out []api.Msg
	for _, e := range p.hasEntries {
		if keepers, _ := ring.Keepers(d.ring, e.Key); !slices.Contains(keepers, node) {
			continue
		}
		if len(m.L) == p.chunk {
			out = append(out, m)
			m.L, m.Op = nil, m.Op+1
		}
		m.L = append(m.L, e)
	}
	m.Flag = true
	return append(out, m)
}

func (p *paper) crash(kept int) (*paper, api.Errno) {
	if kept < 0 {
		return nil, api.ErrArg
	}
	q := &paper{each: p.each, keep: p.keep, chunk: p.chunk, records: slices.Clone(p.records), does: "idles"}
	if d := q.decided(); d.epoch != q.established().epoch {
		q.records = append(q.records, []int{4, d.epoch})
		q.start()
	}
	return q, api.OK
}

// agrees holds all that can be seen of a chief against the paper.
func (p *paper) agrees(t *testing.T, name string, c *chief.Chief) {
	t.Helper()
	phase := map[string]int{"idles": api.Idle, "seals": api.Sealing, "installs": api.Installing}[p.does]
	stands(t, name, c, phase, p.established(), p.decided())
	ticks(t, name, c, p.tick()...)
	if c.Issued() != len(p.roles()) {
		t.Errorf("%s: %d issued, not %d", name, c.Issued(), len(p.roles()))
	}
	var want []api.Record
	for _, r := range p.records {
		want = append(want, record(byte(r[0]), r[1:]...))
	}
	wrote(t, name, c, want...)
}
