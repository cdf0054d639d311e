package lin_test

import (
	"slices"
	"strconv"
	"testing"

	"icehouse/api"
	"icehouse/lin"
)

func TestLinear(t *testing.T) {
	putX, putY, get := call(1, api.Put, "k", "x"), call(3, api.Put, "k", "y"), call(2, api.Get, "k", "")
	ok, nothing, x, y := answer(1, api.OK), told(2, api.Val{}), told(2, val("x")), told(2, val("y"))
	for name, c := range map[string]struct {
		h    []api.Note
		want bool
		e    api.Errno
	}{
		"nothing":                            {nil, true, api.OK},
		"a call alone":                       {[]api.Note{putX}, true, api.OK},
		"a Get alone":                        {[]api.Note{get}, true, api.OK},
		"a Get of nothing":                   {[]api.Note{get, nothing}, true, api.OK},
		"a Get of what nobody put":           {[]api.Note{get, x}, false, api.OK},
		"a Put, then a Get":                  {[]api.Note{putX, ok, get, x}, true, api.OK},
		"a Put, then a Get of nothing":       {[]api.Note{putX, ok, get, nothing}, false, api.OK},
		"a Put that takes long":              {[]api.Note{putX, get, nothing, ok}, true, api.OK},
		"one that is read already":           {[]api.Note{putX, get, x, ok}, true, api.OK},
		"and then not any more":              {[]api.Note{putX, get, x, get, nothing, ok}, false, api.OK},
		"first not, and then":                {[]api.Note{putX, get, nothing, get, x, ok}, true, api.OK},
		"out of time":                        {[]api.Note{putX, answer(1, api.ErrTime), get, nothing, get, x}, true, api.OK},
		"out of time, read, then not":        {[]api.Note{putX, answer(1, api.ErrTime), get, x, get, nothing}, false, api.OK},
		"no room":                            {[]api.Note{putX, answer(1, api.ErrBusy), get, nothing, get, x}, true, api.OK},
		"refused":                            {[]api.Note{putX, answer(1, api.ErrArg), get, nothing}, true, api.OK},
		"refused, and read":                  {[]api.Note{putX, answer(1, api.ErrArg), get, x}, false, api.OK},
		"a Get out of time":                  {[]api.Note{putX, ok, get, answer(2, api.ErrTime)}, true, api.OK},
		"a Get that is refused":              {[]api.Note{get, answer(2, api.ErrLong), get, nothing}, true, api.OK},
		"two Puts, the later one is read":    {[]api.Note{putX, ok, putY, answer(3, api.OK), get, y}, true, api.OK},
		"two Puts, the earlier one is read":  {[]api.Note{putX, ok, putY, answer(3, api.OK), get, x}, false, api.OK},
		"two Puts, both are read":            {[]api.Note{putX, putY, ok, answer(3, api.OK), get, x, get, x}, true, api.OK},
		"two Puts, read by turns":            {[]api.Note{putX, putY, ok, answer(3, api.OK), get, x, get, y}, false, api.OK},
		"another key":                        {[]api.Note{putX, ok, call(2, api.Get, "j", ""), nothing}, true, api.OK},
		"what was put to another key":        {[]api.Note{putX, ok, call(2, api.Get, "j", ""), x}, false, api.OK},
		"the first key is not, the last is":  {[]api.Note{call(5, api.Get, "a", ""), told(5, val("x")), get, nothing}, false, api.OK},
		"the first key is, the last is not":  {[]api.Note{call(5, api.Get, "a", ""), told(5, api.Val{}), get, x}, false, api.OK},
		"a strange call, which did nothing":  {[]api.Note{call(1, 7, "k", "x"), ok, get, nothing}, true, api.OK},
		"an answer without a call":           {[]api.Note{ok}, false, api.ErrArg},
		"the same ID":                        {[]api.Note{putX, putX}, false, api.ErrArg},
		"not linear, but first of all wrong": {[]api.Note{get, x, x}, false, api.ErrArg},
	} {
		if is, e := lin.Linear(c.h...); is != c.want || e != c.e {
			t.Errorf("%s: %v, error %d", name, is, e)
		}
	}
}

// Some histories of three keys, held against an order of the deeds of each.
func TestLinearOfSomeHistories(t *testing.T) {
	count := map[bool]int{}
	for seed := range 20000 {
		d := diceOf(seed)
		h := someHistory(d, d.below(24))
		want := true
		for _, key := range []string{"", "a", "b"} {
			_, is := plainOrder(paperDeeds(key, h))
			want = want && is
		}
		count[want]++
		if is, e := lin.Linear(h...); is != want || e != api.OK {
			t.Errorf("seed %d: %v, not %v, error %d: %v", seed, is, want, e, h)
		}
	}
	if count[true] < 3000 || count[false] < 3000 {
		t.Errorf("so many are linear: %v", count)
	}
}

// registers are keys that calls are done to, each at one moment between call and answer;
// or never, or at any moment from then on, if the answer is that nobody knows.
type registers struct {
	d    *dice
	h    []api.Note
	vals map[string]api.Val
	open []*pending
}

type pending struct {
	call api.Call
	done bool
	a    api.Answer
	over bool // answered, though it may still be done
}

func (r *registers) begin(id int, key string) {
	c := api.Call{ID: id, Kind: 1 + r.d.below(3), Key: key}
	if c.Kind == api.Put {
		c.B = []byte(strconv.Itoa(r.d.below(4)))
	}
	r.h = append(r.h, api.Note{Call: c})
	r.open = append(r.open, &pending{call: c, a: api.Answer{ID: id}})
}

func (r *registers) do(p *pending) {
	if p.done {
		return
	}
	p.done = true
	switch p.call.Kind {
	case api.Get:
		p.a.Val = r.vals[p.call.Key]
	case api.Put:
		r.vals[p.call.Key] = api.Val{Has: true, B: p.call.B}
	case api.Delete:
		r.vals[p.call.Key] = api.Val{}
	}
}

func (r *registers) end(i int) {
	p := r.open[i]
	a := p.a
	switch {
	case r.d.luck(15):
		a = api.Answer{ID: a.ID, E: []api.Errno{api.ErrTime, api.ErrBusy}[r.d.below(2)]}
		p.over = true
	case !p.done && r.d.luck(20):
		a = api.Answer{ID: a.ID, E: api.ErrArg}
		p.done = true
	case !p.done:
		return
	}
	if !p.over {
		r.open = slices.Delete(r.open, i, i+1)
	}
	r.h = append(r.h, api.Note{IsAnswer: true, Answer: a})
}

// registersOf has done that many calls, to keys of which each has no more than may be.
func registersOf(seed, calls int) *registers {
	r := &registers{d: diceOf(seed), vals: map[string]api.Val{}}
	for begun := 0; begun < calls; {
		switch n := len(r.open); {
		case n == 0 || r.d.luck(30):
			r.begin(begun, strconv.Itoa(begun/api.MaxDeeds))
			begun++
		case r.d.luck(50):
			r.do(r.open[r.d.below(n)])
		default:
			if i := r.d.below(n); !r.open[i].over {
				r.end(i)
			}
		}
	}
	return r
}

// What registers answer is linear; it is no more if anything is read that was never put.
func TestRegistersAreLinear(t *testing.T) {
	for seed := range 3000 {
		h := registersOf(seed, 1+seed%70).h
		if is, e := lin.Linear(h...); !is || e != api.OK {
			t.Errorf("seed %d: %v, error %d: %v", seed, is, e, h)
		}
		for i, n := range h {
			if n.IsAnswer && n.Answer.E == api.OK && n.Answer.Val.Has {
				wrong := slices.Clone(h)
				wrong[i].Answer.Val = val("never")
				if is, e := lin.Linear(wrong...); is || e != api.OK {
					t.Errorf("seed %d, note %d: %v, error %d: %v", seed, i, is, e, wrong)
				}
			}
		}
	}
}

// A Put and a Delete that are answered, one after the other, and then read: only the last
// one may have been read, in any number of rounds.
func TestStaleReads(t *testing.T) {
	for n := 1; n <= 6; n++ {
		for stale := range n + 1 {
			var h []api.Note
			for i := range n {
				h = append(h, call(1, api.Put, "k", strconv.Itoa(i)), answer(1, api.OK))
				read := val(strconv.Itoa(i))
				if i == stale {
					read = val(strconv.Itoa(i - 1))
				}
				h = append(h, call(1, api.Get, "k", ""), told(1, read), call(1, api.Delete, "k", ""), answer(1, api.OK))
			}
			if is, e := lin.Linear(h...); is != (stale == n) || e != api.OK {
				t.Errorf("%d rounds, the stale one %d: %v, error %d", n, stale, is, e)
			}
		}
	}
}
