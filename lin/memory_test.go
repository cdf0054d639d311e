package lin_test

import (
	"slices"
	"testing"

	"icehouse/api"
	"icehouse/lin"
)

func spoil(b []byte) {
	b = b[:cap(b)]
	for i := range b {
		b[i] = '#'
	}
}

func spoilInts(l []int) {
	l = l[:cap(l)]
	for i := range l {
		l[i] = -77
	}
}

func spoilKeys(l []string) {
	l = l[:cap(l)]
	for i := range l {
		l[i] = "#"
	}
}

func spoilDeeds(l []api.Deed) {
	l = l[:cap(l)]
	for i := range l {
		spoil(l[i].B)
		spoil(l[i].Val.B)
		l[i] = api.Deed{Kind: 77}
	}
}

// roomy has bytes behind those that it shows.
func roomy(s string) []byte {
	b := []byte(s + " and more")
	return b[:len(s):len(b)]
}

// longHistory is an ordinary one, with more notes behind it than it shows.
func longHistory() []api.Note {
	h := []api.Note{
		call(1, api.Put, "k", ""), answer(1, api.OK), call(2, api.Get, "k", ""), told(2, val("")), call(3, api.Put, "a", ""),
		call(4, api.Get, "a", ""), told(4, val("")), answer(3, api.ErrTime), call(5, api.Delete, "k", ""), call(9, api.Put, "b", ""),
	}
	for i := range h {
		h[i].Call.B, h[i].Answer.Val.B = roomy("x"), roomy("x")
	}
	return h[:len(h)-1]
}

func TestHistoriesAreLeftAlone(t *testing.T) {
	h, want := longHistory(), longHistory()
	lin.Right(h...)
	lin.Keys(h...)
	lin.Deeds("k", h...)
	lin.Linear(h...)
	lin.Same(h, h)
	lin.Same(h, want)
	h, want = h[:cap(h)], want[:cap(want)]
	if !lin.Same(h, want) {
		t.Errorf("the history is %v", h)
	}
	for i := range h {
		if a, b := h[i].Call.B, h[i].Answer.Val.B; string(a[:cap(a)]) != "x and more" || string(b[:cap(b)]) != "x and more" {
			t.Errorf("the bytes of note %d are %q and %q", i, a[:cap(a)], b[:cap(b)])
		}
	}
}

func TestDeedsAndOrdersAreLeftAlone(t *testing.T) {
	of := func() []api.Deed {
		l := []api.Deed{none(3, 8), put("", 2, 9), got("x", 4, 5), gone(7, 7), put("", 0, 0)}
		l[1].B, l[2].Val.B = roomy("x"), roomy("x")
		return l
	}
	l, want := of(), of()
	order := []int{1, 2, 3, 0, 99, 98}
	if !lin.Holds(l[:4], order[:4]...) {
		t.Error("the order does not hold")
	}
	if got, e := lin.Order(l[:4]...); e != api.OK || !slices.Equal(got, []int{0, 1, 2, 3}) {
		t.Errorf("%v, error %d", got, e)
	}
	if !sameDeeds(l, want) || !slices.Equal(order, []int{1, 2, 3, 0, 99, 98}) {
		t.Errorf("the order is %v of%s", order, text(l))
	}
	for _, b := range [][]byte{l[1].B, l[2].Val.B} {
		if string(b[:cap(b)]) != "x and more" {
			t.Errorf("the bytes are %q", b[:cap(b)])
		}
	}
}

// What becomes of deeds is not seen in the history, in other deeds, or in later answers;
// and the other way round.
func TestDeedsAreNewMemory(t *testing.T) {
	h := longHistory()
	// The same bytes in several notes.
	h[0].Call.B, h[2].Call.B, h[3].Answer.Val.B, h[8].Call.B = h[4].Call.B, h[4].Call.B, h[4].Call.B, h[4].Call.B
	want := []api.Deed{put("x", 0, 1), got("x", 2, 3), deed(api.Delete, "x", 8, 9, false)}
	want[1].B = []byte("x")
	first, _ := lin.Deeds("k", h...)
	second, _ := lin.Deeds("k", h...)
	if !sameDeeds(first, want) || !sameDeeds(second, want) {
		t.Fatalf("the deeds are%s%s", text(first), text(second))
	}
	var all [][]byte
	for _, d := range first {
		all = append(all, d.B, d.Val.B)
	}
	for i, b := range all {
		spoil(b)
		for _, other := range all[i+1:] {
			if len(other) > 0 && string(other) != "x" {
				t.Errorf("the deeds share bytes: %s", text(first))
			}
		}
	}
	spoilDeeds(first)
	third, _ := lin.Deeds("k", h...)
	if !sameDeeds(second, want) || !sameDeeds(third, want) || !lin.Same(h, longHistory()) {
		t.Errorf("the deeds are%s%s\nof %v", text(second), text(third), h)
	}
	for i := range h {
		spoil(h[i].Call.B)
		spoil(h[i].Answer.Val.B)
		h[i] = api.Note{}
	}
	if !sameDeeds(second, want) {
		t.Errorf("the deeds are now%s", text(second))
	}
}

func TestKeysAreNewMemory(t *testing.T) {
	h := longHistory()
	first, second := lin.Keys(h...), lin.Keys(h...)
	spoilKeys(first)
	if want := []string{"a", "k"}; !slices.Equal(second, want) || !slices.Equal(lin.Keys(h...), want) || !lin.Same(h, longHistory()) {
		t.Errorf("the keys are %q of %v", second, h)
	}
}

func TestOrdersAreNewMemory(t *testing.T) {
	l := []api.Deed{got("y", 0, 9), put("x", 0, 9), put("y", 0, 9), gone(0, 9), none(0, 9)}
	want := []int{1, 2, 0, 3, 4}
	first, _ := lin.Order(l...)
	second, _ := lin.Order(l...)
	spoilInts(first)
	third, e := lin.Order(l...)
	if !slices.Equal(second, want) || !slices.Equal(third, want) || e != api.OK {
		t.Errorf("the orders are %v and %v, error %d", second, third, e)
	}
}

// The same call answers the same again, whatever was asked in between.
func TestAnswersAreRepeated(t *testing.T) {
	h := registersOf(5, 15).h
	l, _ := lin.Deeds("0", h...)
	order, e := lin.Order(l...)
	if e != api.OK || len(l) < 5 {
		t.Fatalf("error %d of%s", e, text(l))
	}
	for seed := range 50 {
		other := registersOf(seed, 15).h
		lin.Linear(other...)
		more, _ := lin.Deeds("0", other...)
		lin.Order(more...)
		lin.Holds(more, order...)
		again, _ := lin.Deeds("0", h...)
		if o, e := lin.Order(again...); e != api.OK || !slices.Equal(o, order) || !sameDeeds(again, l) {
			t.Errorf("%v, error %d, not %v, of%s", o, e, order, text(again))
		}
	}
}
