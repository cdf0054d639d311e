package depot_test

import (
	"slices"
	"testing"

	"icehouse/api"
	"icehouse/depot"
)

// spoil overwrites bytes up to their capacity.
func spoil(b []byte) {
	b = b[:cap(b)]
	for i := range b {
		b[i] = '#'
	}
}

func spoilEntries(l []api.Entry) {
	l = l[:cap(l)]
	for i := range l {
		spoil(l[i].Val.B)
		l[i] = put("#", 77, "#")
	}
}

func spoilMsgs(l []api.Msg) {
	l = l[:cap(l)]
	for i := range l {
		spoil(l[i].E.Val.B)
		l[i] = flushedOf(77, put("#", 77, ""))
	}
}

// A message is neither changed nor kept: not in the store, and not for a copy.
func TestMessagesAreNotRetained(t *testing.T) {
	whole := []byte("valuebehind")
	e := put("k", 1, "")
	e.Val.B = whole[:5]
	m := flushOf(7, e)
	s := depot.New()
	handles(t, s, m)
	handles(t, s, m)
	handles(t, s, to(api.Depot, api.Msg{Kind: api.Look, E: e}), foundOf(api.Msg{}, unwritten("k")))
	if string(whole) != "valuebehind" || !sameMsg(m, flushOf(7, put("k", 1, "value"))) {
		t.Errorf("the message is now %v", m)
	}
	spoil(whole)
	c := s.Copy()
	for _, x := range []*depot.Server{c, c.Copy(), s} {
		holds(t, crashed(t, x, 9999), put("k", 1, "value"))
		ticks(t, x, flushedOf(7, e), flushedOf(7, e))
		holds(t, x, put("k", 1, "value"))
	}
}

// What becomes of what was returned is not seen in the server, or in what else is returned.
func TestResultsAreNewMemory(t *testing.T) {
	s := filled(t)
	for range 2 {
		one, other := s.Handle(lookOf(5, "b")), s.Handle(lookOf(5, "b"))
		all, again := s.All(), s.All()
		got := s.Get("b")
		spoilMsgs(one)
		spoilEntries(all)
		sends(t, "Look", other, foundOf(lookOf(5, "b"), put("b", 2, "two")))
		if !alike(again, durable()) || !sameEntry(got, put("b", 2, "two")) {
			t.Errorf("the entries are %v, that of b is %v", again, got)
		}
		spoil(got.Val.B)
		spoil(s.Disk().Lasting())
		holds(t, s, durable()...)
	}
	c := s.Copy()
	spoilMsgs(s.Tick())
	ticks(t, s)
	holds(t, s, atLast()...)
	ticks(t, c, told()...)
}

// The values of All don't lie in one another's capacity.
func TestValuesLieApart(t *testing.T) {
	l := filled(t).All()
	for i := range l {
		spoil(l[i].Val.B)
		if !alike(l[i+1:], durable()[i+1:]) {
			t.Fatalf("behind entry %d there are %v", i, l[i+1:])
		}
	}
}

// What a tick returned stays as it is, whatever comes later.
func TestTicksStay(t *testing.T) {
	s := depot.New()
	var before [][]api.Msg
	for i := range 20 {
		for j := range i % 5 {
			handles(t, s, flushOf(10*i+j, put("k", i+1, "v")))
		}
		before = append(before, s.Tick())
	}
	for i, l := range before {
		var want []api.Msg
		for j := range i % 5 {
			want = append(want, flushedOf(10*i+j, put("k", i+1, "")))
		}
		sends(t, "an earlier tick", l, want...)
	}
}

// What a server returned may be given to it again.
func TestOwnResults(t *testing.T) {
	s := filled(t)
	want := told()
	for _, e := range slices.Concat(s.All(), []api.Entry{s.Get("b")}) {
		handles(t, s, flushOf(3, e))
		want = append(want, flushedOf(3, e))
		e.Tag.Seq += 10
		handles(t, s, flushOf(3, e))
		want = append(want, flushedOf(3, e))
		spoil(e.Val.B)
	}
	c := s.Copy()
	ticks(t, s, want...)
	ticks(t, c, want...)
	for _, x := range []*depot.Server{s, c} {
		holds(t, x, put("a", 11, "one"), put("b", 12, "two"), gone("c", 11), put("d", 1, "four"))
	}
}

// servers: servers in all states, each made anew.
func servers(t *testing.T) map[string]*depot.Server {
	t.Helper()
	compacted, later, told := filled(t), filled(t), filled(t)
	compacted.Compact()
	later.Compact()
	flushes(t, later, 3, put("a", 4, "later"), put("e", 1, "five"), put("a", 2, "new"))
	told.Tick()
	return map[string]*depot.Server{
		"new": depot.New(), "filled": filled(t), "told": told, "compacted": compacted, "later": later,
		"crashed": crashed(t, filled(t), 50), "copied": filled(t).Copy(), "copied later": later.Copy(),
	}
}

// after is a long row of calls, and all that is answered.
func after(s *depot.Server) []api.Msg {
	var out []api.Msg
	tell := func() {
		d := s.Disk()
		out = append(out, api.Msg{N: s.Waiting(), Op: d.Syncs(), L: s.All(), E: put("disk", len(d.Tail()), string(d.Bytes()))})
	}
	tell()
	for _, e := range []api.Entry{put("a", 3, "x"), gone("b", 5), put("e", 2, "y")} {
		out = append(out, s.Handle(flushOf(4, e))...)
		out = append(out, s.Handle(lookOf(4, "a"))...)
	}
	tell()
	c, _ := s.Crash(40)
	out = append(append(out, s.Tick()...), c.Tick()...)
	tell()
	s.Handle(flushOf(4, put("a", 7, "z")))
	s.Compact()
	tell()
	out = append(out, s.Tick()...)
	tell()
	return out
}

// A copy answers as the server would, and neither sees what the other one is told.
func TestCopy(t *testing.T) {
	for name, s := range servers(t) {
		want := after(servers(t)[name])
		c := s.Copy()
		if c == s || c.Copy() == c {
			t.Fatalf("%s: the copy is the server", name)
		}
		remains(t, name, s, func() { s.Copy() })
		d := c.Copy()
		for i, x := range []*depot.Server{s, c, d} {
			if got := after(x); !sameMsgs(got, want) {
				t.Errorf("%s, %d: it tells %s, not %s", name, i, text(got), text(want))
			}
		}
	}
}

// A server and its copy are told different things in turn, and copied again.
func TestCopiesGoTheirWays(t *testing.T) {
	s := depot.New()
	var before []api.Msg
	for i := range 20 {
		both := []*depot.Server{s, s.Copy()}
		versions := []api.Entry{put("k", i+1, "one"), put("k", i+1, "two")}
		for j, x := range both {
			handles(t, x, flushOf(10+j, versions[j]))
		}
		for j, x := range both {
			c := x.Copy()
			ticks(t, c, append(slices.Clone(before), flushedOf(10+j, versions[j]))...)
			holds(t, c, versions[j])
		}
		before = append(before, flushedOf(10, versions[0]))
	}
	ticks(t, s, before...)
}

// Whatever happens to one server is not seen in others: that of its crash, its copy, and
// new ones.
func TestServersAreIndependent(t *testing.T) {
	for name := range servers(t) {
		for i := range 4 {
			s, x := servers(t)[name], servers(t)[name]
			others := []*depot.Server{s, s.Copy(), crashed(t, s, 9999), depot.New()}
			want := []*depot.Server{x, x.Copy(), crashed(t, x, 9999), depot.New()}
			spoilServer(others[i])
			for j := range others {
				if got, want := after(others[j]), after(want[j]); i != j && !sameMsgs(got, want) {
					t.Errorf("%s: what becomes of %d is seen in %d: %s, not %s", name, i, j, text(got), text(want))
				}
			}
		}
	}
}
