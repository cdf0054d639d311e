package lin_test

import (
	"math"
	"slices"
	"strconv"
	"strings"
	"testing"

	"icehouse/api"
	"icehouse/lin"
)

// counted are the indexes of n deeds.
func counted(n int) []int {
	out := make([]int, n)
	for i := range out {
		out[i] = i
	}
	return out
}

func TestOrderOfTooManyDeeds(t *testing.T) {
	for n := range 24 {
		var puts, maybes, wrong []api.Deed
		for i := range n {
			puts = append(puts, put(strconv.Itoa(i), 0, 9))
			maybes = append(maybes, maybe(strconv.Itoa(i), 0, 9))
			wrong = append(wrong, deed(4, "", 0, 9, i%2 == 0))
		}
		got, e := lin.Order(puts...)
		if n > 20 && (e != api.ErrLong || got != nil) || n <= 20 && (e != api.OK || !slices.Equal(got, counted(n))) {
			t.Errorf("%d Puts: %v, error %d", n, got, e)
		}
		got, e = lin.Order(maybes...)
		if n > 20 != (e == api.ErrLong) || n <= 20 && e != api.OK || len(got) > 0 {
			t.Errorf("%d Puts that aren't Done: %v, error %d", n, got, e)
		}
		got, e = lin.Order(wrong...)
		if n > 20 != (e == api.ErrLong) || n <= 20 && n > 0 && e != api.ErrNone || len(got) > 0 {
			t.Errorf("%d deeds of no kind: %v, error %d", n, got, e)
		}
		if !lin.Holds(puts, counted(n)...) || n > 0 && lin.Holds(puts, counted(n-1)...) {
			t.Errorf("%d Puts in a row", n)
		}
	}
	if got, e := lin.Order(make([]api.Deed, 1<<20)...); e != api.ErrLong || got != nil {
		t.Errorf("%v, error %d", got, e)
	}
}

// puts are n calls to key, each answered, from the ID on.
func puts(key string, n, id int) []api.Note {
	var h []api.Note
	for i := range n {
		h = append(h, call(id+i, api.Put, key, strconv.Itoa(i)), answer(id+i, api.OK))
	}
	return h
}

func TestLinearOfTooManyDeeds(t *testing.T) {
	stale := []api.Note{call(0, api.Get, "k", ""), told(0, val("stale"))}
	for name, c := range map[string]struct {
		h    []api.Note
		want bool
		e    api.Errno
	}{
		"20":                       {puts("k", 20, 1), true, api.OK},
		"21":                       {puts("k", 21, 1), false, api.ErrLong},
		"20 and 20":                {slices.Concat(puts("a", 20, 1), puts("b", 20, 21)), true, api.OK},
		"20 and 21":                {slices.Concat(puts("a", 20, 1), puts("b", 21, 21)), false, api.ErrLong},
		"21 and 20":                {slices.Concat(puts("a", 21, 1), puts("b", 20, 22)), false, api.ErrLong},
		"21, one of them stale":    {slices.Concat(puts("k", 20, 1), stale), false, api.ErrLong},
		"20, one of them stale":    {slices.Concat(puts("k", 19, 1), stale), false, api.OK},
		"stale, 21 of a later key": {slices.Concat(stale, puts("l", 21, 1)), false, api.ErrLong},
		"stale, 21 of one before":  {slices.Concat(stale, puts("j", 21, 1)), false, api.ErrLong},
		"21, but first of all not right": {
			slices.Concat(puts("k", 21, 1), []api.Note{answer(1, api.OK)}), false, api.ErrArg,
		},
		"20, and a Get without an answer": {slices.Concat(puts("k", 20, 1), []api.Note{call(0, api.Get, "k", "")}), true, api.OK},
		"20, and a Put that was refused": {
			slices.Concat(puts("k", 20, 1), []api.Note{call(0, api.Put, "k", ""), answer(0, api.ErrArg)}), true, api.OK,
		},
		"20, and a call of no kind":       {slices.Concat(puts("k", 20, 1), []api.Note{call(0, 4, "k", ""), answer(0, api.OK)}), true, api.OK},
		"20, and a Put without an answer": {slices.Concat(puts("k", 20, 1), []api.Note{call(0, api.Put, "k", "")}), false, api.ErrLong},
		"20, and a Put out of time": {
			slices.Concat(puts("k", 20, 1), []api.Note{call(0, api.Put, "k", ""), answer(0, api.ErrTime)}), false, api.ErrLong,
		},
	} {
		if is, e := lin.Linear(c.h...); is != c.want || e != c.e {
			t.Errorf("%s: %v, error %d", name, is, e)
		}
	}
}

// crowd is 20 deeds: Puts of several values, all at once, and then Gets that read them by
// turns, which no order of the Puts allows.
func crowd(vals, gets int) []api.Deed {
	var l []api.Deed
	for i := range api.MaxDeeds - gets {
		l = append(l, put(string(rune('a'+i%vals)), 0, 100))
	}
	for i := range gets {
		l = append(l, got(string(rune('a'+i%vals)), 101+2*i, 102+2*i))
	}
	return l
}

// Whether there is an order has to be found out in all these without trying all of them.
func TestCrowdsWithoutAnOrder(t *testing.T) {
	for vals := 2; vals <= 10; vals++ {
		for gets := 2; gets <= 10; gets++ {
			l := crowd(vals, gets)
			agrees(t, l, nil, false)
			for i := range l[:api.MaxDeeds-gets] {
				l[i].Done = i%2 == 0
			}
			agrees(t, l, nil, false)
			slices.Reverse(l)
			agrees(t, l, nil, false)
		}
	}
}

// All Puts are concurrent with each other and with the only Get.
func TestCrowdsWithOneGet(t *testing.T) {
	for gets := range api.MaxDeeds {
		l := make([]api.Deed, api.MaxDeeds)
		for i := range l {
			l[i] = put(strconv.Itoa(i), 0, 100)
		}
		l[gets] = got("nothing", 0, 100)
		agrees(t, l, nil, false)
		l[gets] = got("19", 0, 100)
		want := counted(api.MaxDeeds)
		if gets < 19 {
			want = append(slices.Delete(want, gets, gets+1), gets)
			agrees(t, l, want, true)
		}
		l[gets] = none(0, 100)
		want = append([]int{gets}, slices.DeleteFunc(counted(api.MaxDeeds), func(i int) bool { return i == gets })...)
		if gets == 0 {
			want = counted(api.MaxDeeds)
		}
		agrees(t, l, want, true)
	}
}

// Puts and Gets by pairs, all at once: each Get comes behind its Put.
func TestCrowdsOfPairs(t *testing.T) {
	var l []api.Deed
	var want []int
	for i := range api.MaxDeeds / 2 {
		l = append(l, got(strconv.Itoa(i), 0, 100), put(strconv.Itoa(i), 0, 100))
		want = append(want, 2*i+1, 2*i)
	}
	agrees(t, l, want, true)
	l[0] = none(50, 100)
	l[19] = put("9", 0, 49)
	agrees(t, l, nil, false)
}

func TestExtremeTimes(t *testing.T) {
	times := []int{math.MinInt, math.MinInt + 1, -1, 0, 1, math.MaxInt - 1, math.MaxInt}
	for _, a := range times {
		for _, b := range times {
			for _, c := range times {
				for _, d := range times {
					l := []api.Deed{put("x", a, b), gone(c, d)}
					want, is := paperOrder(l, nil)
					agrees(t, l, want, is)
					holdsAsOnPaper(t, l, []int{0, 1})
					holdsAsOnPaper(t, l, []int{1, 0})
					l[0].Done = false
					want, is = paperOrder(l, nil)
					agrees(t, l, want, is)
					holdsAsOnPaper(t, l, []int{1})
				}
			}
		}
	}
}

// Values and keys longer than any that a call may have.
func TestLongValues(t *testing.T) {
	long := strings.Repeat("v", 1<<22)
	h := []api.Note{
		call(1, api.Put, long, long+"x"), answer(1, api.OK), call(2, api.Put, long, long+"y"), answer(2, api.OK),
		call(3, api.Get, long, ""), told(3, val(long+"y")),
	}
	if is, e := lin.Linear(h...); !is || e != api.OK {
		t.Errorf("%v, error %d", is, e)
	}
	h[5].Answer.Val = val(long + "x")
	if is, e := lin.Linear(h...); is || e != api.OK {
		t.Errorf("%v, error %d", is, e)
	}
	if l, e := lin.Deeds(long, h...); e != api.OK || len(l) != 3 || len(l[2].Val.B) != len(long)+1 {
		t.Errorf("%d deeds, error %d", len(l), e)
	}
}

// Long histories, of very many keys and of one key, with very many open calls.
func TestLongHistories(t *testing.T) {
	const n = 100000
	var h []api.Note
	for i := range n {
		h = append(h, call(i, api.Put, "k"+strconv.Itoa(i), "x"))
	}
	for i := range n {
		h = append(h, answer(n-1-i, api.OK))
	}
	for i := range n {
		h = append(h, call(i, api.Get, "k"+strconv.Itoa(i), ""), told(i, val("x")))
	}
	if is, e := lin.Linear(h...); !is || e != api.OK {
		t.Errorf("many keys: %v, error %d", is, e)
	}
	h[len(h)-1].Answer.Val = val("y")
	if is, e := lin.Linear(h...); is || e != api.OK {
		t.Errorf("many keys, the last of them stale: %v, error %d", is, e)
	}
	if k := lin.Keys(h...); len(k) != n || k[0] != "k0" || !slices.IsSorted(k) {
		t.Errorf("%d keys", len(k))
	}
	if !lin.Same(h, slices.Clone(h)) || lin.Same(h, h[1:]) {
		t.Error("Same")
	}
	h = append(puts("k", n, 0), answer(n, api.OK))
	if e := lin.Right(h...); e != api.ErrArg {
		t.Errorf("Right: error %d", e)
	}
	h = h[:2*n]
	l, e := lin.Deeds("k", h...)
	if e != api.OK || len(l) != n || l[n-1].From != 2*n-2 || l[n-1].To != 2*n-1 {
		t.Errorf("%d deeds, error %d", len(l), e)
	}
	if is, e := lin.Linear(h...); is || e != api.ErrLong {
		t.Errorf("one key: %v, error %d", is, e)
	}
	if !lin.Holds(l, counted(n)...) || lin.Holds(l, counted(n-1)...) {
		t.Error("Holds")
	}
	order := counted(n)
	slices.Reverse(order)
	if lin.Holds(l, order...) || lin.Holds(l, slices.Concat(counted(n), counted(n))...) {
		t.Error("Holds of what does not")
	}
}
