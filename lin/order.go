package lin

import (
	"cmp"
	"slices"

	"icehouse/api"
	"icehouse/tags"
)

// set is a set of small numbers: of the indexes of deeds, or of the numbers of values.
type set uint32

func (s set) has(i int) bool      { return s>>i&1 == 1 }
func (s set) with(i int) set      { return s | 1<<i }
func (s set) within(all set) bool { return s&^all == 0 }

// step is a deed, as an order is searched.
type step struct {
	get    bool
	value  int // the number of what a Get has read, or any other one leaves
	before set // the others that ended before it began
	gets   set // the Gets that have read its value
}

// state is which deeds an order has, and the number of the value that they left.
type state struct {
	done  set
	value int
}

// overwritten stands for any value that nothing reads before the next one is written.
const overwritten = -1

// search looks for ways from one state to another that has all deeds that are Done.
type search struct {
	steps    []step
	byEnd    []int // their indexes, by rising To
	must     set
	hopeless map[state]struct{}
}

// searchOf returns a search among the deeds of l. The number of no value is 0.
func searchOf(l []api.Deed) *search {
	s := &search{steps: make([]step, len(l)), byEnd: make([]int, len(l)), hopeless: map[state]struct{}{}}
	met := []api.Val{{}}
	number := func(v api.Val) int {
		n := slices.IndexFunc(met, func(o api.Val) bool { return tags.SameVal(o, v) })
		if n < 0 {
			n = len(met)
			met = append(met, v)
		}
		return n
	}
	for i, d := range l {
		s.steps[i], s.byEnd[i] = step{get: d.Kind == api.Get, value: number(value(d))}, i
		if d.Done {
			s.must = s.must.with(i)
		}
	}
	for i := range l {
		for j, other := range l {
			if j != i && other.To < l[i].From {
				s.steps[i].before = s.steps[i].before.with(j)
			}
			if s.steps[j].get && s.steps[j].value == s.steps[i].value {
				s.steps[i].gets = s.steps[i].gets.with(j)
			}
		}
	}
	slices.SortStableFunc(s.byEnd, func(i, j int) int { return cmp.Compare(l[i].To, l[j].To) })
	return s
}

// next returns the state that the deed i leads to, if it may come next.
func (s *search) next(at state, i int) (state, bool) {
	d := s.steps[i]
	if at.done.has(i) || !d.before.within(at.done) || d.get && d.value != at.value {
		return state{}, false
	}
	return state{at.done.with(i), d.value}, true
}

// possible reports whether there is a way from at. Once that is settled, a write comes next.
// Of several that leave one value only the one that ended first is tried: where it came later,
// or was left out, any other one can come instead, and holds up no more than it did.
func (s *search) possible(at state) bool {
	at = s.settled(at)
	if s.must.within(at.done) {
		return true
	}
	if _, tried := s.hopeless[at]; tried {
		return false
	}
	var tried set // of values
	for _, i := range s.byEnd {
		to, may := s.next(at, i)
		if !may || tried.has(to.value) {
			continue
		}
		if s.possible(to) {
			return true
		}
		tried = tried.with(to.value)
	}
	s.hopeless[at] = struct{}{}
	return false
}

// settled adds to at what may come next and closes no way, until there is nothing like that.
// Then a write comes next, so that it is all the same which value that finds.
func (s *search) settled(at state) state {
	for {
		to, may := s.harmless(at)
		if !may {
			return state{at.done, overwritten}
		}
		at = to
	}
}

// harmless adds a Get to at, as that changes nothing. If none may come next, a write has to:
// then one whose value no Get is left to read may just as well come ahead of it.
func (s *search) harmless(at state) (state, bool) {
	if to, may := s.first(at, func(d step) bool { return d.get }); may {
		return to, true
	}
	return s.first(at, func(d step) bool { return d.gets.within(at.done) })
}

// first adds the first deed of those to at that may come next.
func (s *search) first(at state, those func(d step) bool) (state, bool) {
	for i, d := range s.steps {
		if !those(d) {
			continue
		}
		if to, may := s.next(at, i); may {
			return to, true
		}
	}
	return state{}, false
}

// Order returns the lexicographically least order that Holds, and ends as soon as it has all
// deeds that are Done. ErrLong if there are too many deeds, ErrNone if there is no order.
func Order(l ...api.Deed) ([]int, api.Errno) {
	if len(l) > api.MaxDeeds {
		return nil, api.ErrLong
	}
	if slices.ContainsFunc(l, strange) {
		return nil, api.ErrNone
	}
	s := searchOf(l)
	var at state
	var out []int
choosing:
	for !s.must.within(at.done) {
		for i := range l {
			if to, may := s.next(at, i); may && s.possible(to) {
				out, at = append(out, i), to
				continue choosing
			}
		}
		return nil, api.ErrNone
	}
	return out, api.OK
}
