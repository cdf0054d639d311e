package msgs_test

import "icehouse/api"

// cut is what the oracle panics with at the first error.
type cut struct{ e api.Errno }

// oracle reads bytes as the chapters say it, field by field, and does not call the
// program.
type oracle struct{ b []byte }

func (o *oracle) fail(e api.Errno) { panic(cut{e}) }

func (o *oracle) must(t bool) {
	if !t {
		o.fail(api.ErrForm)
	}
}

func (o *oracle) take(n int) []byte {
	if n > len(o.b) {
		o.fail(api.ErrShort)
	}
	out := o.b[:n]
	o.b = o.b[n:]
	return out
}

func (o *oracle) num(least, most int) int {
	size := int(o.take(1)[0])
	o.must(size <= 8)
	l := o.take(size)
	o.must(size == 0 || l[0] != 0)
	o.must(size < 8 || l[0] < 128) // negative
	n := 0
	for _, c := range l {
		n = n*256 + int(c)
	}
	o.must(n >= least && n <= most)
	return n
}

func (o *oracle) truth() bool {
	b := o.take(1)[0]
	o.must(b < 2)
	return b == 1
}

func (o *oracle) row() []byte {
	return append([]byte(nil), o.take(o.num(0, 65536))...)
}

func (o *oracle) entry() api.Entry {
	e := api.Entry{Key: string(o.row())}
	e.Tag.Seq = o.num(0, 1<<40-1)
	e.Tag.Who = o.num(0, 1<<20-1)
	e.Tag.Op = o.num(0, 1<<20-1)
	if o.truth() {
		e.Val = api.Val{Has: true, B: o.row()}
	}
	o.must(len(e.Key) >= 1 && len(e.Key) <= 250 && len(e.Val.B) <= 60000)
	o.must(e.Tag.Seq > 0 || e.Tag == api.Tag{} && !e.Val.Has)
	return e
}

func (o *oracle) ring() api.Ring {
	r := api.Ring{Each: o.num(0, 64)}
	r.Keep = o.num(0, 64)
	for n := o.num(0, 64); n > 0; n-- {
		r.Nodes = append(r.Nodes, o.num(0, 1<<20-1))
	}
	return r
}

func isRing(r api.Ring) bool {
	for i := range r.Nodes {
		if i > 0 && r.Nodes[i-1] >= r.Nodes[i] {
			return false
		}
	}
	return r.Each >= 1 && r.Keep >= 1 && r.Keep <= len(r.Nodes)
}

func (o *oracle) msg() api.Msg {
	m := api.Msg{Kind: o.num(1, 17)}
	m.From = o.num(0, 1<<20-1)
	m.To = o.num(0, 1<<20-1)
	m.Epoch = o.num(0, 1<<40-1)
	m.Op = o.num(0, 1<<40-1)
	for _, letter := range letters(m.Kind) {
		switch letter {
		case 'N':
			m.N = o.num(0, 1<<40-1)
		case 'F':
			m.Flag = o.truth()
		case 'E':
			m.E = o.entry()
		case 'L':
			for n := o.num(0, 1000); n > 0; n-- {
				m.L = append(m.L, o.entry())
			}
		case 'R':
			m.R = o.ring()
		}
	}
	o.must(len(o.b) == 0 && (letters(m.Kind) != "R" || isRing(m.R)))
	return m
}

// expected returns what Read is to return.
func expected(b []byte) (m api.Msg, e api.Errno) {
	defer func() {
		if c, ok := recover().(cut); ok {
			m, e = api.Msg{}, c.e
		}
	}()
	o := oracle{b}
	return o.msg(), api.OK
}
