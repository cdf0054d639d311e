package lin_test

import (
	"math"
	"slices"
	"testing"

	"icehouse/api"
	"icehouse/lin"
)

func TestOrder(t *testing.T) {
	for name, c := range map[string]struct {
		l    []api.Deed
		want []int
		e    api.Errno
	}{
		"nothing":                                 {nil, nil, api.OK},
		"a Put":                                   {[]api.Deed{put("x", 0, 1)}, []int{0}, api.OK},
		"a Put and a concurrent Get of no value":  {[]api.Deed{put("x", 0, 3), none(1, 2)}, []int{1, 0}, api.OK},
		"a Put and a later Get of no value":       {[]api.Deed{put("x", 0, 1), none(2, 3)}, nil, api.ErrNone},
		"a Put and a Get as it ended":             {[]api.Deed{put("x", 0, 1), none(1, 2)}, []int{1, 0}, api.OK},
		"a Put and a Get":                         {[]api.Deed{put("x", 0, 1), got("x", 2, 3)}, []int{0, 1}, api.OK},
		"a Get, then its Put":                     {[]api.Deed{got("x", 0, 1), put("x", 2, 3)}, nil, api.ErrNone},
		"a Get of nothing that was put":           {[]api.Deed{put("x", 0, 9), got("y", 0, 9)}, nil, api.ErrNone},
		"a Get without a Put":                     {[]api.Deed{got("x", 0, 9)}, nil, api.ErrNone},
		"a Get of the empty value without a Put":  {[]api.Deed{got("", 0, 9)}, nil, api.ErrNone},
		"a Put of the empty value":                {[]api.Deed{put("", 0, 1), got("", 2, 3)}, []int{0, 1}, api.OK},
		"the empty value is a value":              {[]api.Deed{put("", 0, 1), none(2, 3)}, nil, api.ErrNone},
		"a Delete":                                {[]api.Deed{put("x", 0, 1), gone(2, 3), none(4, 5)}, []int{0, 1, 2}, api.OK},
		"a Get behind a Delete":                   {[]api.Deed{put("x", 0, 1), gone(2, 3), got("x", 4, 5)}, nil, api.ErrNone},
		"a Delete of nothing":                     {[]api.Deed{deed(api.Delete, "x", 0, 1, true), none(2, 3)}, []int{0, 1}, api.OK},
		"the least, though the other way is good": {[]api.Deed{put("x", 0, 9), put("y", 0, 9), put("x", 0, 9), got("x", 0, 9)}, []int{0, 1, 2, 3}, api.OK},
		"none is Done":                            {[]api.Deed{maybe("x", 0, 9), maybe("y", 0, 9)}, nil, api.OK},
		"not Done, but the least":                 {[]api.Deed{maybe("x", 0, 9), put("y", 0, 9)}, []int{0, 1}, api.OK},
		"not Done, and behind the end":            {[]api.Deed{put("y", 0, 9), maybe("x", 0, 9)}, []int{0}, api.OK},
		"not Done, and read":                      {[]api.Deed{got("x", 0, 9), maybe("x", 0, 9)}, []int{1, 0}, api.OK},
		"not Done, and had to be read":            {[]api.Deed{maybe("x", 0, 1), none(2, 3)}, nil, api.ErrNone},
		"not Done, and too late":                  {[]api.Deed{maybe("x", 5, 9), got("x", 1, 4)}, nil, api.ErrNone},
		"not Done, read, then not":                {[]api.Deed{maybe("x", 0, 9), got("x", 2, 3), none(4, 5)}, nil, api.ErrNone},
		"not Done, not read, then read":           {[]api.Deed{maybe("x", 0, 9), none(2, 3), got("x", 4, 5)}, []int{1, 0, 2}, api.OK},
		"not Done, but ended before another":      {[]api.Deed{put("y", 2, 3), maybe("x", 0, 1)}, []int{1, 0}, api.OK},
		"a Get that isn't Done":                   {[]api.Deed{deed(api.Get, "", 0, 9, false), put("x", 0, 9)}, []int{0, 1}, api.OK},
		"a Get that isn't Done and can't be":      {[]api.Deed{{Kind: api.Get, To: 9, Val: val("y")}, put("x", 0, 9)}, []int{1}, api.OK},
		"and had to be":                           {[]api.Deed{{Kind: api.Get, To: 1, Val: val("y")}, put("x", 2, 9)}, nil, api.ErrNone},
		"ended before it began":                   {[]api.Deed{put("x", 9, 0)}, []int{0}, api.OK},
		"two that ended before either began":      {[]api.Deed{put("x", 9, 0), put("y", 8, 1)}, nil, api.ErrNone},
		"one of which isn't Done":                 {[]api.Deed{put("x", 9, 0), maybe("y", 8, 1)}, nil, api.ErrNone},
		"neither is Done":                         {[]api.Deed{maybe("x", 9, 0), maybe("y", 8, 1)}, nil, api.OK},
		"the extreme times":                       {[]api.Deed{put("y", math.MaxInt, math.MaxInt), none(math.MinInt, math.MinInt)}, []int{1, 0}, api.OK},
		"the same times":                          {[]api.Deed{got("x", 3, 3), put("x", 3, 3), none(3, 3)}, []int{2, 1, 0}, api.OK},
	} {
		if got, e := lin.Order(c.l...); e != c.e || !slices.Equal(got, c.want) {
			t.Errorf("%s: %v, error %d", name, got, e)
		}
	}
}

func TestOrderOfEachKind(t *testing.T) {
	for _, kind := range kinds() {
		for _, done := range []bool{true, false} {
			for _, l := range [][]api.Deed{
				{deed(kind, "", 0, 9, done)}, {put("x", 0, 9), deed(kind, "", 0, 9, done)}, {deed(kind, "", 0, 9, done), maybe("x", 0, 9)},
			} {
				got, e := lin.Order(l...)
				if isKind(kind) != (e == api.OK) || e != api.OK && (e != api.ErrNone || got != nil) {
					t.Errorf("%v, error %d of%s", got, e, text(l))
				}
			}
		}
	}
}

// agrees holds Order against what it has to return.
func agrees(t *testing.T, l []api.Deed, want []int, is bool) {
	t.Helper()
	got, e := lin.Order(l...)
	switch {
	case !is:
		if e != api.ErrNone || got != nil {
			t.Errorf("%v, error %d, and there is none of%s", got, e, text(l))
		}
	case e != api.OK || !slices.Equal(got, want):
		t.Errorf("%v, error %d, not %v, of%s", got, e, want, text(l))
	case !lin.Holds(l, got...):
		t.Errorf("%v does not hold of%s", got, text(l))
	}
}

// pool are deeds of all kinds at times that meet in all ways.
func pool() []api.Deed {
	var out []api.Deed
	for _, times := range [][2]int{{0, 1}, {1, 2}, {2, 3}, {0, 3}, {3, 0}} {
		for _, done := range []bool{true, false} {
			out = append(out,
				deed(api.Put, "x", times[0], times[1], done), deed(api.Delete, "", times[0], times[1], done),
				deed(api.Get, "", times[0], times[1], done), deed(api.Get, "", times[0], times[1], done),
			)
			out[len(out)-1].Val = val("x")
		}
	}
	return out
}

// All pairs and all rows of three deeds of the pool.
func TestOrderOfAllShortLists(t *testing.T) {
	all := pool()
	count := map[bool]int{}
	rows(0, len(all)-1, 3, func(row []int) {
		var l []api.Deed
		for _, i := range row {
			l = append(l, all[i])
		}
		want, is := paperOrder(l, nil)
		count[is]++
		agrees(t, l, want, is)
	})
	if count[true] < 5000 || count[false] < 5000 {
		t.Errorf("so many have an order: %v", count)
	}
}

// Some lists of up to six deeds.
func TestOrderOfShortLists(t *testing.T) {
	count := map[bool]int{}
	for seed := range 20000 {
		d := diceOf(seed)
		n := 3 + d.below(3)
		if seed%20 == 0 {
			n = 6
		}
		l := someDeeds(d, n, 1+d.below(3), 2+d.below(15))
		want, is := paperOrder(l, nil)
		count[is]++
		agrees(t, l, want, is)
		if t.Failed() {
			return
		}
	}
	if count[true] < 2000 || count[false] < 2000 {
		t.Errorf("so many have an order: %v", count)
	}
}

// plain goes on with an order by the smallest index that leads to the end. It keeps only
// where it has failed, and takes nothing as settled.
type plain struct {
	l      []api.Deed
	failed map[[2]int]int
}

func (p *plain) end(in int) bool {
	for i, d := range p.l {
		if d.Done && in>>i&1 == 0 {
			return false
		}
	}
	return true
}

func (p *plain) free(in, i int) bool {
	if in>>i&1 == 1 {
		return false
	}
	for j, d := range p.l {
		if j != i && in>>j&1 == 0 && d.To < p.l[i].From {
			return false
		}
	}
	return true
}

// last is the index of the last write, or -1.
func (p *plain) from(in, last int, order []int) ([]int, bool) {
	if p.end(in) {
		return order, true
	}
	at := [2]int{in, last}
	if p.failed[at] > 0 {
		return nil, false
	}
	for i, d := range p.l {
		now := api.Val{}
		if last >= 0 {
			now = paperLeft(p.l, []int{last})
		}
		read := d.Val.Has == now.Has && (!now.Has || string(d.Val.B) == string(now.B))
		if !p.free(in, i) || d.Kind == api.Get && !read {
			continue
		}
		next := last
		if d.Kind != api.Get {
			next = i
		}
		if out, is := p.from(in|1<<i, next, append(slices.Clone(order), i)); is {
			return out, true
		}
	}
	p.failed[at] = 1
	return nil, false
}

func plainOrder(l []api.Deed) ([]int, bool) {
	p := &plain{l, map[[2]int]int{}}
	return p.from(0, -1, nil)
}

func TestPlainOrderIsThatOnPaper(t *testing.T) {
	for seed := range 2000 {
		d := diceOf(seed)
		l := someDeeds(d, d.below(6), 1+d.below(3), 2+d.below(15))
		want, is := paperOrder(l, nil)
		if got, has := plainOrder(l); has != is || is && !slices.Equal(got, want) {
			t.Errorf("%v, not %v, of%s", got, want, text(l))
		}
	}
}

// Longer lists, up to as many deeds as may be, of which some have an order by how they are
// made.
func TestOrderOfLongLists(t *testing.T) {
	count := map[bool]int{}
	for seed := range 3000 {
		d := diceOf(seed)
		l := someDeeds(d, 7+d.below(6), 1+d.below(4), 20+d.below(40))
		if seed%2 == 0 {
			l, _ = inOrder(d, 7+d.below(14))
			for range d.below(5) {
				l[d.below(len(l))].Done = false
			}
		}
		if seed%6 == 0 {
			x := &l[d.below(len(l))]
			x.Val, x.B = val("x"), []byte("y")
		}
		want, is := plainOrder(l)
		count[is]++
		agrees(t, l, want, is)
		if t.Failed() {
			return
		}
	}
	if count[true] < 700 || count[false] < 700 {
		t.Errorf("so many have an order: %v", count)
	}
}

// What was done in an order has one, if nothing of it is forgotten.
func TestWhatWasDoneHasAnOrder(t *testing.T) {
	for seed := range 5000 {
		d := diceOf(seed)
		l, order := inOrder(d, 1+d.below(api.MaxDeeds))
		got, e := lin.Order(l...)
		if e != api.OK || !lin.Holds(l, got...) || !lin.Holds(l, order...) || slices.Compare(got, order) > 0 {
			t.Errorf("seed %d: %v, error %d, of%s", seed, got, e, text(l))
		}
		if n := len(got); n > 0 && allDone(l, got[:n-1]) {
			t.Errorf("seed %d: %v goes on behind its end, of%s", seed, got, text(l))
		}
	}
}
