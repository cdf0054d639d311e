package depot_test

import (
	"slices"
	"strconv"
	"testing"

	"icehouse/api"
	"icehouse/depot"
	"icehouse/store"
)

// paper is all that a server was told since New, from which its store is made anew
// whenever it is asked for.
type paper []step

type step func(s *store.Store) (*store.Store, []api.Ack, api.Errno)

// play returns the store, and what the last step told.
func (p paper) play() (*store.Store, []api.Ack, api.Errno) {
	s := store.New()
	var told []api.Ack
	e := api.OK
	for _, do := range p {
		s, told, e = do(s)
	}
	return s, told, e
}

func stepPut(e api.Entry, who int) step {
	return func(s *store.Store) (*store.Store, []api.Ack, api.Errno) {
		s.Put(e, who)
		return s, nil, api.OK
	}
}

// stepDirect: also what the store answers is told.
func stepDirect(e api.Entry, who int) step {
	return func(s *store.Store) (*store.Store, []api.Ack, api.Errno) {
		return s, nil, s.Put(e, who)
	}
}

func stepTick(s *store.Store) (*store.Store, []api.Ack, api.Errno) {
	told, e := s.Tick()
	return s, told, e
}

func stepCompact(s *store.Store) (*store.Store, []api.Ack, api.Errno) {
	return s, nil, s.Compact()
}

func stepCrash(kept int) step {
	return func(s *store.Store) (*store.Store, []api.Ack, api.Errno) {
		c, e := s.Crash(kept)
		return c, nil, e
	}
}

// stepNone: what is no concern of the store.
func stepNone(s *store.Store) (*store.Store, []api.Ack, api.Errno) { return s, nil, api.OK }

// agrees holds all that a server tells without being changed against the paper.
func (p paper) agrees(t *testing.T, name string, s *depot.Server) {
	t.Helper()
	x, _, _ := p.play()
	if got, want := s.All(), x.All(); !alike(got, want) {
		t.Errorf("%s: the durable entries are %s, not %s", name, text(got), text(want))
	}
	for _, key := range []string{"a", "b", "c", "d", "z"} {
		want := x.Get(key)
		if got := s.Get(key); !sameEntry(got, want) {
			t.Errorf("%s: Get(%q) is %s, not %s", name, key, text(got), text(want))
		}
		m := lookOf(5, key)
		if got := s.Handle(m); !sameMsgs(got, []api.Msg{foundOf(m, want)}) {
			t.Errorf("%s: Look of %q is answered by %s", name, key, text(got))
		}
	}
	if got, want := s.Disk(), x.Disk(); !sameDisk(got, want) {
		t.Errorf("%s: the disk has %.100x and %.100x, not %.100x and %.100x", name, got.Lasting(), got.Tail(), want.Lasting(), want.Tail())
	}
	if got, want := s.Waiting(), x.Waiting(); got != want {
		t.Errorf("%s: %d Acks are pending, not %d", name, got, want)
	}
}

// act is a call, of the server and of the paper. It returns the server that goes on, and
// what is sent.
type act struct {
	name string
	do   func(s *depot.Server) (*depot.Server, []api.Msg, api.Errno)
	want step
}

func handleOf(name string, m api.Msg) act {
	want := stepNone
	if m.Kind == api.Flush && m.To == api.Depot {
		want = stepPut(m.E, m.From)
	}
	return act{
		name,
		func(s *depot.Server) (*depot.Server, []api.Msg, api.Errno) { return s, s.Handle(m), api.OK },
		want,
	}
}

func putOf(from int, e api.Entry) act {
	return handleOf("Flush of "+e.Key+strconv.Itoa(e.Tag.Seq)+" from "+strconv.Itoa(from), flushOf(from, e))
}

// promotedOf puts past Handle: Put of the store is a method of the server.
func promotedOf(who int, e api.Entry) act {
	return act{
		"Put of " + e.Key + strconv.Itoa(e.Tag.Seq) + " for " + strconv.Itoa(who),
		func(s *depot.Server) (*depot.Server, []api.Msg, api.Errno) { return s, nil, s.Put(e, who) },
		stepDirect(e, who),
	}
}

// embeddedOf puts past the server.
func embeddedOf(who int, e api.Entry) act {
	return act{
		"Put to the store of " + e.Key + strconv.Itoa(e.Tag.Seq) + " for " + strconv.Itoa(who),
		func(s *depot.Server) (*depot.Server, []api.Msg, api.Errno) { return s, nil, s.Store.Put(e, who) },
		stepDirect(e, who),
	}
}

// storeTickOf is a tick past the server, whose Acks become messages here.
func storeTickOf() act {
	return act{
		"Tick of the store",
		func(s *depot.Server) (*depot.Server, []api.Msg, api.Errno) {
			acks, e := s.Store.Tick()
			var out []api.Msg
			for _, k := range acks {
				out = append(out, flushedOf(k.Who, api.Entry{Key: k.Key, Tag: k.Tag}))
			}
			return s, out, e
		},
		stepTick,
	}
}

func tickOf() act {
	return act{
		"Tick",
		func(s *depot.Server) (*depot.Server, []api.Msg, api.Errno) { return s, s.Tick(), api.OK },
		stepTick,
	}
}

func compactOf() act {
	return act{
		"Compact",
		func(s *depot.Server) (*depot.Server, []api.Msg, api.Errno) { return s, nil, s.Compact() },
		stepCompact,
	}
}

// spoilServer brings a server that nothing is asked of any more to where it would not be.
func spoilServer(s *depot.Server) {
	for _, key := range []string{"a", "b", "z"} {
		s.Handle(flushOf(77, put(key, 77, "?")))
	}
	s.Tick()
	s.Handle(flushOf(78, gone("a", 78)))
	s.Put(put("b", 78, "?"), 78)
	s.Compact()
	s.Handle(flushOf(79, put("c", 79, "?")))
}

// crashOf goes on with what is found, while what crashed is spoilt.
func crashOf(kept int) act {
	return act{
		"Crash " + strconv.Itoa(kept),
		func(s *depot.Server) (*depot.Server, []api.Msg, api.Errno) {
			c, e := s.Crash(kept)
			spoilServer(s)
			return c, nil, e
		},
		stepCrash(kept),
	}
}

// missed goes on with the server, while what is found after a crash is spoilt.
func missed() act {
	return act{
		"Crash that is left",
		func(s *depot.Server) (*depot.Server, []api.Msg, api.Errno) {
			c, e := s.Crash(9999)
			spoilServer(c)
			return s, nil, e
		},
		stepNone,
	}
}

// copyOf goes on with a copy, or with the server itself, while the other one is spoilt.
func copyOf(goOn bool) act {
	name := "Copy that is left"
	if goOn {
		name = "Copy"
	}
	return act{
		name,
		func(s *depot.Server) (*depot.Server, []api.Msg, api.Errno) {
			c := s.Copy()
			if goOn {
				s, c = c, s
			}
			spoilServer(c)
			return s, nil, api.OK
		},
		stepNone,
	}
}

func to(who int, m api.Msg) api.Msg {
	m.To = who
	return m
}

func acts() []act {
	return []act{
		tickOf(), compactOf(), copyOf(true), copyOf(false), missed(),
		putOf(7, put("a", 1, "one")), putOf(8, put("a", 2, "two")), putOf(3, gone("a", 2)), putOf(7, gone("a", 3)), putOf(2, put("b", 1, "")),
		putOf(7, unwritten("a")), handleOf("Look to another one", to(5, lookOf(7, "a"))), handleOf("Flush to another one", to(5, flushOf(7, put("a", 9, "nine")))),
		crashOf(0), crashOf(30), crashOf(9999),
		promotedOf(4, put("a", 2, "past")), promotedOf(-1, put("a", 5, "five")), embeddedOf(6, put("b", 2, "by")),
	}
}

// rows calls do with each row of up to so many acts.
func rows(l []act, most int, do func(row []act)) {
	var longer func(row []act)
	longer = func(row []act) {
		do(row)
		if len(row) == most {
			return
		}
		for _, a := range l {
			longer(append(row[:len(row):len(row)], a))
		}
	}
	longer(nil)
}

func namesOf(row []act) string {
	name := "New"
	for _, a := range row {
		name += ", " + a.name
	}
	return name
}

// goesOn lets a server act, and returns what goes on, and what is on paper then.
func goesOn(t *testing.T, name string, a act, s *depot.Server, p paper) (*depot.Server, paper) {
	t.Helper()
	p = append(p[:len(p):len(p)], a.want)
	next, got, e := a.do(s)
	_, acks, want := p.play()
	answers(t, name, e, want)
	var told []api.Msg
	for _, k := range acks {
		told = append(told, api.Msg{Kind: api.Flushed, From: api.Depot, To: k.Who, E: api.Entry{Key: k.Key, Tag: k.Tag}})
	}
	sends(t, name, got, told...)
	return next, p
}

func TestRowsOfCalls(t *testing.T) {
	rows(acts(), 4, func(row []act) {
		s, p := depot.New(), paper{}
		for i, a := range row {
			s, p = goesOn(t, namesOf(row[:i+1]), a, s, p)
		}
		p.agrees(t, namesOf(row), s)
		goesOn(t, namesOf(row)+", Tick", tickOf(), s, p)
	})
}

// What was acknowledged is found after every crash.
func TestAcknowledgedIsFound(t *testing.T) {
	rows(acts(), 3, func(row []act) {
		s := depot.New()
		var told []api.Msg
		for _, a := range slices.Concat(row, []act{putOf(3, put("a", 4, "four"))}) {
			next, l, _ := a.do(s)
			s, told = next, append(told, l...)
		}
		for _, kept := range []int{0, 1, 30, 9999} {
			c := crashed(t, s, kept)
			for _, m := range told {
				if got := c.Get(m.E.Key); got.Tag.Seq < m.E.Tag.Seq {
					t.Errorf("%s: %v was told, but there is %v", namesOf(row), m, got)
				}
			}
		}
	})
}

// dice is a row of numbers that look as if they came by chance.
type dice uint64

func (d *dice) below(n int) int {
	*d = *d*6364136223846793005 + 1442695040888963407
	return int(uint64(*d) >> 33 % uint64(n))
}

func someAct(d *dice) act {
	e := put(string(rune('a'+d.below(4))), d.below(12)+1, long(d.below(30)))
	if d.below(3) == 0 {
		e.Val = api.Val{}
	}
	switch n := d.below(24); n {
	case 0:
		return compactOf()
	case 1:
		return crashOf(d.below(200))
	case 2, 3, 4:
		return tickOf()
	case 5, 6:
		return copyOf(true)
	case 7:
		return copyOf(false)
	case 8:
		return missed()
	case 9:
		return storeTickOf()
	}
	e.Tag.Who, e.Tag.Op = d.below(2), d.below(3)
	ways := []func(who int, e api.Entry) act{putOf, promotedOf, embeddedOf}
	return ways[d.below(3)](d.below(9), e)
}

func TestLongRows(t *testing.T) {
	d := dice(7)
	for range 60 {
		s, p := depot.New(), paper{}
		for range 60 {
			a := someAct(&d)
			s, p = goesOn(t, a.name, a, s, p)
			p.agrees(t, a.name, s)
		}
	}
}
