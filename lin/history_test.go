package lin_test

import (
	"maps"
	"math"
	"slices"
	"strconv"
	"strings"
	"testing"

	"icehouse/api"
	"icehouse/lin"
)

func TestRight(t *testing.T) {
	a, b, c := call(1, api.Put, "k", "x"), call(2, api.Get, "k", ""), call(3, api.Delete, "j", "")
	for name, x := range map[string]struct {
		h    []api.Note
		want api.Errno
	}{
		"nothing":                          {nil, api.OK},
		"a call":                           {[]api.Note{a}, api.OK},
		"an answer":                        {[]api.Note{answer(1, api.OK)}, api.ErrArg},
		"a call and its answer":            {[]api.Note{a, answer(1, api.OK)}, api.OK},
		"the answer first":                 {[]api.Note{answer(1, api.OK), a}, api.ErrArg},
		"the answer of another one":        {[]api.Note{a, answer(2, api.OK)}, api.ErrArg},
		"two answers":                      {[]api.Note{a, answer(1, api.OK), answer(1, api.OK)}, api.ErrArg},
		"two calls":                        {[]api.Note{a, b}, api.OK},
		"the same ID":                      {[]api.Note{a, a}, api.ErrArg},
		"the same ID later":                {[]api.Note{a, b, c, a}, api.ErrArg},
		"the same ID of another key":       {[]api.Note{a, call(1, api.Get, "j", "")}, api.ErrArg},
		"the same ID of another kind":      {[]api.Note{call(1, 9, "k", ""), a}, api.ErrArg},
		"the same ID once more":            {[]api.Note{a, answer(1, api.OK), a}, api.OK},
		"and answered":                     {[]api.Note{a, answer(1, api.OK), a, answer(1, api.OK)}, api.OK},
		"the same ID, another is answered": {[]api.Note{a, b, answer(2, api.OK), a}, api.ErrArg},
		"crosswise":                        {[]api.Note{a, b, c, answer(2, api.OK), answer(3, api.OK), answer(1, api.OK)}, api.OK},
		"an answer too many":               {[]api.Note{a, b, answer(2, api.OK), answer(2, api.OK), answer(1, api.OK)}, api.ErrArg},
		"a fault at the end":               {[]api.Note{a, b, answer(1, api.OK), answer(2, api.OK), answer(3, api.OK)}, api.ErrArg},
		"answered by an error":             {[]api.Note{a, answer(1, api.ErrTime), a, answer(1, api.ErrArg), a}, api.OK},
		"any numbers": {[]api.Note{
			call(0, 0, "", ""), call(-1, 9, "", ""), call(math.MaxInt, -1, "", ""), call(math.MinInt, 1, "", ""),
			answer(math.MinInt, 77), answer(0, -1), answer(math.MaxInt, api.OK), answer(-1, api.ErrNone),
		}, api.OK},
	} {
		if e := lin.Right(x.h...); e != x.want {
			t.Errorf("%s: error %d, not %d", name, e, x.want)
		}
	}
}

// A call's ID is that of its Call alone, an answer's that of its Answer.
func TestOnlyTheNotesOwnPartCounts(t *testing.T) {
	first, second, last := call(1, api.Put, "k", "x"), call(2, api.Get, "k", ""), told(1, val("y"))
	first.Answer = api.Answer{ID: 2, E: api.ErrArg, Val: val("z")}
	second.Answer = api.Answer{ID: 1, E: api.ErrArg}
	last.Call = api.Call{ID: 2, Kind: api.Put, Key: "other", B: []byte("w")}
	h := []api.Note{first, second, last}
	if e := lin.Right(h...); e != api.OK {
		t.Errorf("Right: error %d", e)
	}
	if e := lin.Right(h[2], h[0]); e != api.ErrArg {
		t.Errorf("Right of an answer first: error %d", e)
	}
	if k := lin.Keys(h...); !slices.Equal(k, []string{"k"}) {
		t.Errorf("Keys: %q", k)
	}
	want := []api.Deed{put("x", 0, 2)}
	if l, e := lin.Deeds("k", h...); e != api.OK || !sameDeeds(l, want) {
		t.Errorf("Deeds: error %d%s", e, text(l))
	}
	if l, e := lin.Deeds("other", h...); e != api.OK || len(l) > 0 {
		t.Errorf("Deeds: error %d%s", e, text(l))
	}
}

// All rows of up to seven calls and answers of two IDs.
func TestRightOfAllShortRows(t *testing.T) {
	notes := []api.Note{call(1, api.Put, "k", "x"), call(2, api.Put, "j", "y"), answer(1, api.OK), answer(2, api.ErrTime)}
	var try func(h []api.Note)
	try = func(h []api.Note) {
		want := api.OK
		if !paperRight(h) {
			want = api.ErrArg
		}
		if e := lin.Right(h...); e != want {
			t.Errorf("%v: error %d, not %d", h, e, want)
		}
		if l, e := lin.Deeds("k", h...); e != want || e != api.OK && l != nil {
			t.Errorf("%v: Deeds has error %d, not %d", h, e, want)
		}
		if is, e := lin.Linear(h...); e != want || is != (e == api.OK) {
			t.Errorf("%v: Linear is %v with error %d, not %d", h, is, e, want)
		}
		for _, n := range notes {
			if len(h) < 7 {
				try(append(slices.Clone(h), n))
			}
		}
	}
	try(nil)
}

func TestKeys(t *testing.T) {
	long := strings.Repeat("l", 70000)
	for _, c := range []struct{ keys, want []string }{
		{nil, nil},
		{[]string{""}, []string{""}},
		{[]string{"b", "a", "c"}, []string{"a", "b", "c"}},
		{[]string{"a", "a", "a"}, []string{"a"}},
		{[]string{"b", "a", "b", "", "a", ""}, []string{"", "a", "b"}},
		{[]string{"ab", "a", "b", "aa", "B", "\xff", "\x00", "é", long}, []string{"\x00", "B", "a", "aa", "ab", "b", long, "é", "\xff"}},
	} {
		var h []api.Note
		for i, key := range c.keys {
			h = append(h, call(i, kinds()[i%len(kinds())], key, "x"), answer(i, errors()[i%len(errors())]))
		}
		if got := lin.Keys(h...); !slices.Equal(got, c.want) {
			t.Errorf("of %q: %q, not %q", c.keys, got, c.want)
		}
	}
}

// Keys are told of histories that are not right, too.
func TestKeysOfWrongHistories(t *testing.T) {
	h := []api.Note{answer(1, api.OK), call(1, api.Put, "z", ""), call(1, 0, "y", ""), call(1, api.Get, "z", "")}
	if got := lin.Keys(h...); !slices.Equal(got, []string{"y", "z"}) {
		t.Errorf("%q", got)
	}
}

// Each kind of a call, with each answer and without one.
func TestDeedsOfOneCall(t *testing.T) {
	for _, kind := range kinds() {
		before, behind := call(8, api.Put, "j", "other"), call(9, api.Get, "j", "")
		c := call(1, kind, "k", "bytes")
		var want []api.Deed
		if kind == api.Put || kind == api.Delete {
			want = []api.Deed{deed(kind, "bytes", 1, 3, false)}
		}
		if l, e := lin.Deeds("k", before, c, behind); e != api.OK || !sameDeeds(l, want) {
			t.Errorf("kind %d without an answer: error %d%s", kind, e, text(l))
		}
		for _, err := range errors() {
			a := told(1, val("read"))
			a.Answer.E = err
			want = nil
			maybe := err == api.ErrTime || err == api.ErrBusy
			switch {
			case kind == api.Get && err == api.OK:
				want = []api.Deed{deed(kind, "bytes", 1, 3, true)}
				want[0].Val = val("read")
			case isKind(kind) && err == api.OK:
				want = []api.Deed{deed(kind, "bytes", 1, 3, true)}
			case isKind(kind) && kind != api.Get && maybe:
				want = []api.Deed{deed(kind, "bytes", 1, 5, false)}
			}
			if l, e := lin.Deeds("k", before, c, behind, a, answer(8, api.OK)); e != api.OK || !sameDeeds(l, want) {
				t.Errorf("kind %d with error %d: error %d%s", kind, err, e, text(l))
			}
		}
	}
}

// A Get's Val is that of the answer, whatever that is.
func TestDeedsHaveTheValOfTheAnswer(t *testing.T) {
	for _, v := range []api.Val{{}, {Has: true}, val("x"), val(""), val(strings.Repeat("long", 20000)), {B: []byte("odd")}} {
		want := none(0, 1)
		want.Val = v
		if l, e := lin.Deeds("", call(5, api.Get, "", ""), told(5, v)); e != api.OK || !sameDeeds(l, []api.Deed{want}) {
			t.Errorf("%v: error %d%s", v, e, text(l))
		}
	}
}

func TestDeedsOfManyCalls(t *testing.T) {
	h := []api.Note{
		call(1, api.Put, "k", "x"), call(2, api.Get, "k", ""), call(3, api.Delete, "j", ""), call(4, api.Delete, "k", ""),
		told(2, val("x")), call(2, api.Put, "k", "y"), answer(4, api.ErrBusy), answer(1, api.OK), call(4, api.Get, "k", ""),
		call(1, api.Put, "K", "z"), answer(3, api.OK), answer(4, api.ErrTime), answer(1, api.ErrArg), call(4, api.Get, "k", ""), told(4, api.Val{}),
	}
	for key, want := range map[string][]api.Deed{
		"k": {put("x", 0, 7), got("x", 1, 4), deed(api.Delete, "", 3, 15, false), maybe("y", 5, 15), none(13, 14)},
		"j": {gone(2, 10)},
		"K": nil, "": nil, "kk": nil, "l": nil, "k\x00": nil,
	} {
		if l, e := lin.Deeds(key, h...); e != api.OK || !sameDeeds(l, want) {
			t.Errorf("%q: error %d%s", key, e, text(l))
		}
		if l, e := lin.Deeds(key, append(slices.Clone(h), answer(1, api.OK))...); e != api.ErrArg || l != nil {
			t.Errorf("%q of a wrong history: error %d%s", key, e, text(l))
		}
	}
}

// someHistory is right, of up to n notes of keys a, b and the empty one.
func someHistory(d *dice, n int) []api.Note {
	var h []api.Note
	open := map[int]int{}
	for range n {
		id := d.below(6) - 1
		if open[id] == 0 {
			open[id] = 1
			kind := d.below(4)
			if d.luck(90) {
				kind = 1 + d.below(3)
			}
			h = append(h, call(id, kind, []string{"a", "b", ""}[d.below(3)], strconv.Itoa(d.below(3))))
			continue
		}
		open[id] = 0
		a := answer(id, api.OK)
		if d.luck(40) {
			a.Answer.E = errors()[d.below(len(errors()))]
		}
		if d.luck(60) {
			a.Answer.Val = val(strconv.Itoa(d.below(3)))
		}
		h = append(h, a)
	}
	return h
}

func TestDeedsOfLongRows(t *testing.T) {
	for seed := range 3000 {
		h := someHistory(diceOf(seed), seed%60)
		if e := lin.Right(h...); e != api.OK {
			t.Fatalf("seed %d: Right has error %d", seed, e)
		}
		keys := map[string]int{}
		for _, n := range h {
			if !n.IsAnswer {
				keys[n.Call.Key]++
			}
		}
		if got := lin.Keys(h...); !slices.Equal(got, slices.Sorted(maps.Keys(keys))) {
			t.Errorf("seed %d: Keys are %q", seed, got)
		}
		for _, key := range []string{"a", "b", "", "c"} {
			if l, e := lin.Deeds(key, h...); e != api.OK || !sameDeeds(l, paperDeeds(key, h)) {
				t.Errorf("seed %d: Deeds of %q have error %d%s", seed, key, e, text(l))
			}
		}
		// One note too many, or too few, anywhere.
		d, wrong := diceOf(seed+1), slices.Clone(h)
		if i := d.below(len(h) + 1); d.luck(50) {
			wrong = slices.Insert(wrong, i, []api.Note{call(d.below(6)-1, api.Put, "a", ""), answer(d.below(6)-1, api.OK)}[d.below(2)])
		} else if i < len(h) {
			wrong = slices.Delete(wrong, i, i+1)
		}
		if e := lin.Right(wrong...); (e == api.OK) != paperRight(wrong) {
			t.Errorf("seed %d: Right of %v has error %d", seed, wrong, e)
		}
	}
}
