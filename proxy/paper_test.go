package proxy_test

import (
	"slices"
	"testing"

	"icehouse/api"
	"icehouse/msgs"
	"icehouse/proxy"
	"icehouse/quorum"
	"icehouse/ring"
	"icehouse/tags"
)

// paper is a proxy by the chapter's words, one after the other.
type paper struct {
	id, wait int
	epoch    int
	hasRing  bool
	ring     api.Ring
	begun    int
	ops      []*paperOp // that have not been answered

	// What the call that is going on gives.
	out []api.Msg
	ans []api.Answer
}

type paperOp struct {
	number   int
	call     api.Call
	age      int
	does     string // nothing yet, "queries", "looks" or "writes"
	replies  []api.Msg
	isFound  bool
	found    api.Entry
	isChosen bool
	chosen   api.Entry
	kept     []int
	lacks    []int
}

func (p *paper) given() ([]api.Msg, []api.Answer) {
	l, a := p.out, p.ans
	p.out, p.ans = nil, nil
	return l, a
}

func (p *paper) keepers(o *paperOp) []int {
	l, _ := ring.Keepers(p.ring, o.call.Key)
	return l
}

func (p *paper) send(o *paperOp, kind, to int) *api.Msg {
	p.out = append(p.out, api.Msg{Kind: kind, From: p.id, To: to, Epoch: p.epoch, Op: o.number, E: unwritten(o.call.Key)})
	return &p.out[len(p.out)-1]
}

func (p *paper) answer(o *paperOp, e api.Errno, v api.Val) {
	a := api.Answer{ID: o.call.ID, E: e}
	if o.call.Kind == api.Get && e == api.OK {
		a.Val = v
	}
	p.ans = append(p.ans, a)
	p.ops = slices.DeleteFunc(p.ops, func(x *paperOp) bool { return x == o })
}

func (p *paper) callOf(c api.Call) ([]api.Msg, []api.Answer) {
	wrong := c.Kind != api.Get && c.Kind != api.Put && c.Kind != api.Delete
	wrong = wrong || c.Key == "" || len(c.Key) > api.MaxKey
	wrong = wrong || len(c.B) > api.MaxVal || len(c.B) > 0 && c.Kind != api.Put
	wrong = wrong || c.ID < 0 || c.ID > api.MaxSeq
	for _, o := range p.ops {
		wrong = wrong || o.call.ID == c.ID
	}
	if wrong {
		return nil, []api.Answer{{ID: c.ID, E: api.ErrArg}}
	}
	if p.begun == api.MaxID {
		return nil, []api.Answer{{ID: c.ID, E: api.ErrLong}}
	}
	p.begun++
	o := &paperOp{number: p.begun, call: c}
	p.ops = append(p.ops, o)
	if p.hasRing {
		p.begin(o)
	}
	return p.given()
}

func (p *paper) begin(o *paperOp) {
	if o.isChosen {
		p.write(o)
		return
	}
	o.does, o.replies = "queries", nil
	for _, k := range p.keepers(o) {
		p.send(o, api.Ask, k)
	}
}

func (p *paper) write(o *paperOp) {
	o.does, o.kept, o.lacks = "writes", nil, nil
	for _, k := range p.keepers(o) {
		p.send(o, api.Keep, k).E = o.chosen
	}
}

func (p *paper) look(o *paperOp) {
	o.does = "looks"
	p.send(o, api.Look, api.Depot)
}

func (p *paper) decide(o *paperOp) {
	var all []api.Entry
	for _, k := range p.keepers(o) {
		for _, r := range o.replies {
			if r.From == k {
				all = append(all, r.E)
			}
		}
	}
	if o.isFound {
		all = append(all, o.found)
	}
	best := all[0]
	for _, e := range all {
		if tags.Compare(e.Tag, best.Tag) > 0 {
			best = e
		}
	}
	if o.call.Kind == api.Get {
		same := true
		for _, r := range o.replies {
			same = same && r.E.Tag == best.Tag
		}
		if same {
			p.answer(o, api.OK, best.Val)
			return
		}
		o.chosen = best
	} else {
		tag, e := tags.Next(best.Tag, p.id, o.number)
		if e != api.OK {
			p.answer(o, e, api.Val{})
			return
		}
		o.chosen = api.Entry{Key: o.call.Key, Tag: tag}
		if o.call.Kind == api.Put {
			o.chosen.Val = api.Val{Has: true, B: o.call.B}
		}
	}
	o.isChosen = true
	p.write(o)
}

func (p *paper) handle(m api.Msg) ([]api.Msg, []api.Answer) {
	if msgs.Check(m) != api.OK || m.To != p.id {
		return nil, nil
	}
	if m.Kind == api.News {
		if m.From == api.Chief && m.Epoch > p.epoch {
			p.epoch, p.hasRing, p.ring = m.Epoch, true, m.R
			for _, o := range p.ops {
				p.begin(o)
			}
		}
		return p.given()
	}
	for _, o := range slices.Clone(p.ops) {
		if o.number == m.Op && m.Epoch == p.epoch {
			p.apply(o, m)
		}
	}
	return p.given()
}

func (p *paper) apply(o *paperOp, m api.Msg) {
	keepers := p.keepers(o)
	isKeeper := slices.Contains(keepers, m.From)
	need := quorum.Need(len(keepers))
	switch m.Kind {
	case api.Told:
		again := slices.ContainsFunc(o.replies, func(r api.Msg) bool { return r.From == m.From })
		if o.does != "queries" || !isKeeper || m.E.Key != o.call.Key || again {
			return
		}
		o.replies = append(o.replies, m)
		if len(o.replies) != need {
			return
		}
		if slices.ContainsFunc(o.replies, func(r api.Msg) bool { return !r.Flag }) {
			p.look(o)
		} else {
			p.decide(o)
		}
	case api.Found:
		if o.does != "looks" || m.From != api.Depot || m.E.Key != o.call.Key {
			return
		}
		for _, k := range keepers {
			for _, r := range o.replies {
				if r.From == k && !r.Flag {
					fill := p.send(o, api.Fill, k)
					fill.E, fill.N = m.E, r.N
				}
			}
		}
		o.isFound, o.found = true, m.E
		p.decide(o)
	case api.Kept:
		if o.does == "writes" && isKeeper {
			p.kept(o, m.From, need)
		}
	case api.NoRoom:
		if o.does == "writes" && isKeeper && !slices.Contains(o.kept, m.From) {
			p.noRoom(o, m.From, len(keepers), need)
		}
	}
}

func (p *paper) kept(o *paperOp, from, need int) {
	o.lacks = slices.DeleteFunc(o.lacks, func(k int) bool { return k == from })
	if !slices.Contains(o.kept, from) {
		o.kept = append(o.kept, from)
	}
	if len(o.kept) == need {
		p.answer(o, api.OK, o.chosen.Val)
	}
}

func (p *paper) noRoom(o *paperOp, from, n, need int) {
	if !slices.Contains(o.lacks, from) {
		o.lacks = append(o.lacks, from)
	}
	if n-len(o.lacks) < need {
		p.answer(o, api.ErrBusy, api.Val{})
	}
}

func (p *paper) tick() ([]api.Msg, []api.Answer) {
	for _, o := range slices.Clone(p.ops) {
		o.age++
		if o.age == p.wait {
			p.answer(o, api.ErrTime, api.Val{})
			continue
		}
		for _, k := range p.keepers(o) {
			told := slices.ContainsFunc(o.replies, func(r api.Msg) bool { return r.From == k })
			if o.does == "queries" && !told {
				p.send(o, api.Ask, k)
			}
			if o.does == "writes" && !slices.Contains(o.kept, k) {
				p.send(o, api.Keep, k).E = o.chosen
			}
		}
		if o.does == "looks" {
			p.send(o, api.Look, api.Depot)
		}
	}
	return p.given()
}

// agrees holds all that a proxy tells of itself against the paper.
func (p *paper) agrees(t *testing.T, name string, x *proxy.Proxy) {
	t.Helper()
	var ids []int
	for _, o := range p.ops {
		ids = append(ids, o.call.ID)
	}
	if got := x.Pending(); !slices.Equal(got, ids) {
		t.Errorf("%s: %v pend, not %v", name, got, ids)
	}
	if x.Epoch() != p.epoch {
		t.Errorf("%s: the epoch is %d, not %d", name, x.Epoch(), p.epoch)
	}
}
