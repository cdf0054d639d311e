package store_test

import (
	"slices"
	"strings"
	"testing"

	"icehouse/api"
	"icehouse/store"
)

// act is a call, what it does to the store, and what it ought to do. It returns the
// store that goes on, and what Tick told.
type act struct {
	name string
	do   func(s *store.Store) (*store.Store, []api.Ack, api.Errno)
	want func(p paper) (paper, []api.Ack, api.Errno)
}

func putOf(name string, e api.Entry, who int) act {
	return act{
		"Put(" + name + ")",
		func(s *store.Store) (*store.Store, []api.Ack, api.Errno) { return s, nil, s.Put(e, who) },
		func(p paper) (paper, []api.Ack, api.Errno) { return p.put(e, who), nil, api.OK },
	}
}

func tickOf() act {
	return act{
		"Tick",
		func(s *store.Store) (*store.Store, []api.Ack, api.Errno) {
			l, e := s.Tick()
			return s, l, e
		},
		func(p paper) (paper, []api.Ack, api.Errno) { return p.tick(), p.acks, api.OK },
	}
}

func compactOf() act {
	return act{
		"Compact",
		func(s *store.Store) (*store.Store, []api.Ack, api.Errno) { return s, nil, s.Compact() },
		func(p paper) (paper, []api.Ack, api.Errno) { return p.compact(), nil, api.OK },
	}
}

// crashOf goes on with the store that is found after the crash.
func crashOf(name string, kept int) act {
	return act{
		"Crash(" + name + ")",
		func(s *store.Store) (*store.Store, []api.Ack, api.Errno) {
			c, e := s.Crash(kept)
			return c, nil, e
		},
		func(p paper) (paper, []api.Ack, api.Errno) { return p.crash(kept), nil, api.OK },
	}
}

// spoilStore changes a store that nothing is asked of any more.
func spoilStore(s *store.Store) {
	s.Put(put("a", 999, "!"), 9)
	s.Tick()
	s.Put(put("b", 999, "?"), 9)
	s.Compact()
	s.Put(put("c", 999, ""), 9)
}

// missed goes on with the store that was before the crash.
func missed() act {
	return act{
		"Crash that is left",
		func(s *store.Store) (*store.Store, []api.Ack, api.Errno) {
			c, e := s.Crash(25)
			spoilStore(c)
			return s, nil, e
		},
		func(p paper) (paper, []api.Ack, api.Errno) { return p, nil, api.OK },
	}
}

// recoveredOf goes on with a store on the disk and a torn frame, while the one before
// is made another one.
func recoveredOf() act {
	return act{
		"Recover",
		func(s *store.Store) (*store.Store, []api.Ack, api.Errno) {
			d := s.Disk()
			d.Append([]byte{0xa5, 1, 0, 0})
			r, n, e := store.Recover(d)
			if n != 4 {
				e = api.ErrLong
			}
			spoilStore(s)
			return r, nil, e
		},
		func(p paper) (paper, []api.Ack, api.Errno) { return p.durable(p.fresh), nil, api.OK },
	}
}

// failing: calls that fail, one after the other.
func failing() act {
	return act{
		"calls that fail",
		func(s *store.Store) (*store.Store, []api.Ack, api.Errno) {
			c, e := s.Crash(-1)
			if c != nil || e != api.ErrArg || s.Put(put("a", 999, "x"), -1) != api.ErrArg {
				return s, nil, api.OK
			}
			return s, nil, s.Put(api.Entry{Key: "a"}, 1)
		},
		func(p paper) (paper, []api.Ack, api.Errno) { return p, nil, api.ErrArg },
	}
}

func acts() []act {
	return []act{
		putOf("a 1", put("a", 1, "one"), 1), putOf("a 2", gone("a", 2), 2), putOf("a 2 as well", put("a", 2, "two"), 3),
		putOf("b", put("b", 1, "b"), 1), putOf("a 3", put("a", 3, ""), 0),
		tickOf(), compactOf(), missed(), recoveredOf(), failing(),
		crashOf("0", 0), crashOf("24", 24), crashOf("50", 50), crashOf("9999", 9999),
	}
}

// start is a way to come by a store, with what it then has.
type start struct {
	name string
	from func(t *testing.T) *store.Store
	has  paper
}

// starts: a new store, and one whose disk has a snapshot with an entry without a tag,
// and records behind it.
func starts() []start {
	l := []api.Entry{{Key: "a"}, put("b", 1, "old"), put("c", 4, "c"), put("a", 2, "p"), put("c", 4, "d")}
	b := slices.Concat(frameOf(3, nil), snapFrame(l[:3]...), putFrames(l[3:]...))
	return []start{
		{"New", func(t *testing.T) *store.Store { return store.New() }, paper{}},
		{"Recover", func(t *testing.T) *store.Store { return recovered(t, "Recover", diskOf(t, b, nil), 0) }, paper{head: b, kept: l}},
	}
}

// rows calls do with each row of up to so many acts.
func rows(l []act, most int, do func(row []act)) {
	var longer func(row []act)
	longer = func(row []act) {
		do(row)
		if len(row) == most {
			return
		}
		for _, a := range l {
			longer(append(row[:len(row):len(row)], a))
		}
	}
	longer(nil)
}

// play holds a store against the paper after a row of acts.
func play(t *testing.T, start start, row []act) {
	t.Helper()
	s, p := start.from(t), start.has
	names := []string{start.name}
	for _, a := range row {
		names = append(names, a.name)
		name := strings.Join(names, ", ")
		next, told, e := a.do(s)
		after, wantTold, want := a.want(p)
		answers(t, name, e, want)
		if !slices.Equal(told, wantTold) {
			t.Errorf("%s: it tells %v, not %v", name, told, wantTold)
		}
		s, p = next, after
	}
	name := strings.Join(names, ", ")
	holds(t, name, s, p)
	ticks(t, name, s, p)
}

func TestRowsOfCalls(t *testing.T) {
	for _, s := range starts() {
		rows(acts(), 4, func(row []act) { play(t, s, row) })
	}
}

// For every Put that was acknowledged, an entry of that key with at least that tag is
// durable: after each crash it is there.
func TestAcknowledgedPutsLast(t *testing.T) {
	rows(acts(), 3, func(row []act) {
		s := store.New()
		var told []api.Ack
		for _, a := range slices.Concat(row, []act{putOf("a 4", put("a", 4, "four"), 5)}) {
			next, l, _ := a.do(s)
			s, told = next, append(told, l...)
		}
		for _, kept := range []int{0, 1, 30, 9999} {
			c, e := s.Crash(kept)
			answers(t, "Crash", e, api.OK)
			for _, a := range told {
				if got := c.Get(a.Key); order(got.Tag, a.Tag) < 0 {
					t.Errorf("%v was told, but there is %v", a, got)
				}
			}
		}
	})
}
