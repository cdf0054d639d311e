package beat_test

import (
	"slices"
	"testing"

	"icehouse/api"
	"icehouse/beat"
)

// spoil overwrites Times up to their capacity.
func spoil(l []float64) {
	l = l[:cap(l)]
	for i := range l {
		l[i] = -77
	}
}

// roomy: so many Times, with room behind them.
func roomy(n int) []float64 {
	out := make([]float64, 0, 40)
	for i := range n {
		out = append(out, float64(i)+0.5)
	}
	return out
}

// Beats are neither changed by a call, also not behind their Times, nor kept in what it
// returns.
func TestBeatsAreNotRetained(t *testing.T) {
	for n := range 17 {
		b := of(5, roomy(n)...)
		before := slices.Clone(b.Times[:cap(b.Times)])
		h, _ := beat.Heard(b, 9)
		beat.Check(b)
		beat.Usual(b)
		beat.Score(b, 9)
		beat.Suspect(b, 9, 1)
		beat.Order(9, b, b)
		beat.Same(b, b)
		if after := b.Times[:cap(b.Times)]; b.Last != 5 || !slices.EqualFunc(before, after, same) {
			t.Errorf("%d: %v is now %v", n, before, after)
		}
		want := append(roomy(n), 4)
		if n == 16 {
			want = want[1:]
		}
		spoil(b.Times)
		if !alike(h, of(9, want...)) {
			t.Errorf("%d: what was returned is now %v", n, h)
		}
	}
}

// What becomes of a result is not seen in the beats, or in another result.
func TestResultsAreNewMemory(t *testing.T) {
	for n := range 17 {
		b := of(5, roomy(n)...)
		one, _ := beat.Heard(b, 9)
		two, _ := beat.Heard(b, 9)
		spoil(one.Times)
		again, _ := beat.Heard(b, 9)
		if !alike(b, of(5, roomy(n)...)) || !alike(two, again) {
			t.Errorf("%d: %v, and %v", n, b, two)
		}
		next, _ := beat.Heard(two, 12)
		last := slices.Clone(next.Times)
		spoil(two.Times)
		if !slices.EqualFunc(next.Times, last, same) {
			t.Errorf("%d: what came of it is %v", n, next)
		}
	}
}

// The nodes of a list keep their places in it.
func TestOrderChangesNothing(t *testing.T) {
	l := many(50)
	got, _ := beat.Order(100, l...)
	again, _ := beat.Order(100, l...)
	if !slices.EqualFunc(l, many(50), alike) || !slices.Equal(got, again) {
		t.Errorf("%v", l)
	}
	want := slices.Clone(again)
	for i := range got {
		got[i] = 77
	}
	if !slices.Equal(again, want) {
		t.Errorf("%v, not %v", again, want)
	}
}

// What a node was heard of is not seen in another one that began with the same beats.
func TestBeatsGoTheirWays(t *testing.T) {
	start := of(5, roomy(3)...)
	a, b := start, start
	for i := range 30 {
		a, _ = beat.Heard(a, 5+i)
		b, _ = beat.Heard(b, 5+2*i)
	}
	ones, twos := slices.Repeat([]float64{1}, 16), slices.Repeat([]float64{2}, 16)
	if !alike(a, of(34, ones...)) || !alike(b, of(63, twos...)) || !alike(start, api.Beats{Last: 5, Times: roomy(3)}) {
		t.Errorf("%v, %v, %v", a, b, start)
	}
}
