package beat_test

import (
	"math"
	"slices"
	"testing"

	"icehouse/api"
	"icehouse/beat"
)

func TestOrder(t *testing.T) {
	two, never, always, now := of(6, 2, 4), of(4, 0, 0), of(4, greatest, greatest), of(12)
	for i, c := range []struct {
		l    []api.Beats
		want []int
	}{
		{[]api.Beats{two}, []int{0}},
		{[]api.Beats{two, two, two}, []int{0, 1, 2}},
		{[]api.Beats{two, never, now, two}, []int{1, 0, 3, 2}},
		{[]api.Beats{always, two, now, never}, []int{3, 1, 0, 2}}, // two scores are zero, which only the place tells apart
		{[]api.Beats{now, always, never, two}, []int{2, 3, 0, 1}},
		{[]api.Beats{never, two, of(0, smallest)}, []int{0, 2, 1}}, // both infinite
		{[]api.Beats{of(0), of(1), of(2), of(3)}, []int{0, 1, 2, 3}},
		{[]api.Beats{of(3), of(2), of(1), of(0)}, []int{3, 2, 1, 0}},
		{[]api.Beats{of(11, 0.25), of(0, 3), of(8), of(10, 0.5)}, []int{0, 1, 2, 3}}, // all of them 4
	} {
		if got, e := beat.Order(12, c.l...); e != api.OK || !slices.Equal(got, c.want) {
			t.Errorf("%d: %v, not %v, error %d", i, got, c.want, e)
		}
	}
}

func TestOrderOfNone(t *testing.T) {
	for _, now := range []int{0, 12, lastTime, -1, lastTime + 1, math.MinInt, math.MaxInt} {
		for _, l := range [][]api.Beats{nil, {}} {
			if got, e := beat.Order(now, l...); e != api.OK || len(got) != 0 {
				t.Errorf("Order(%d): %v, error %d", now, got, e)
			}
		}
	}
}

// One that has no score, wherever it is, leaves nothing.
func TestOrderOfWrong(t *testing.T) {
	for _, bad := range []api.Beats{of(13), of(-1), of(3, nan), of(3, zeros(17)...)} {
		for i := range 5 {
			l := slices.Repeat([]api.Beats{of(6, 2, 4)}, 5)
			l[i] = bad
			got, e := beat.Order(12, l...)
			fails(t, "Order", len(got) == 0, e, api.ErrArg)
		}
	}
}

// many: beats of so many nodes, with few different scores.
func many(n int) []api.Beats {
	var out []api.Beats
	for i := range n {
		out = append(out, of(100-i*i%11, float64(i%3), float64(i%2)))
	}
	return out
}

// Each index comes once; what comes later has a smaller score, or the same and a greater
// index.
func TestOrderOfMany(t *testing.T) {
	for _, n := range []int{2, 12, 13, 64, 500, 20000} {
		l := many(n)
		got, e := beat.Order(100, l...)
		if e != api.OK || len(got) != n {
			t.Fatalf("%d indexes of %d, error %d", len(got), n, e)
		}
		scores := make([]float64, n)
		for i, b := range l {
			scores[i], _ = beat.Score(b, 100)
		}
		for k := 1; k < n; k++ {
			i, j := got[k-1], got[k]
			if scores[i] < scores[j] || scores[i] == scores[j] && i >= j {
				t.Fatalf("%d, which has %v, comes before %d, which has %v", i, scores[i], j, scores[j])
			}
		}
	}
}
