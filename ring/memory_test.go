package ring_test

import (
	"slices"
	"testing"

	"icehouse/api"
	"icehouse/ring"
)

// spoil overwrites a slice up to its capacity.
func spoil[T any](l []T, with T) {
	l = l[:cap(l)]
	for i := range l {
		l[i] = with
	}
}

// All that a ring tells, each call by its name.
func told(r api.Ring) map[string][]int {
	out := map[string][]int{}
	points, _ := ring.Points(r)
	for _, p := range points {
		out["Points"] = append(out["Points"], int(p.At), p.Node)
	}
	out["At"], _ = ring.At(r, points[0].At)
	out["Keepers"], _ = ring.Keepers(r, "key")
	lists, _ := ring.Lists(r)
	out["Lists"] = slices.Concat(lists...)
	more, _ := ring.With(r, 5)
	out["With"] = more.Nodes
	less, _ := ring.Without(r, 9)
	out["Without"] = less.Nodes
	return out
}

func holds(t *testing.T, name string, got, want map[string][]int) {
	t.Helper()
	for what := range want {
		if !slices.Equal(got[what], want[what]) {
			t.Errorf("%s: %s is %v, not %v", name, what, got[what], want[what])
		}
	}
}

// The nodes are neither changed nor is what lies behind them, and what becomes of them
// later is not seen in results.
func TestArgumentsAreLeftAlone(t *testing.T) {
	whole := []int{1, 4, 9, 77, 78, 79}
	before := slices.Clone(whole)
	r := ringOf(6, 2, whole[:3]...)
	want := told(ringOf(6, 2, 1, 4, 9))
	first := told(r)
	holds(t, "nodes with others behind them", first, want)
	if ring.Check(r) != api.OK || !ring.Same(r, r) || !slices.Equal(whole, before) || !slices.Equal(r.Nodes, before[:3]) {
		t.Errorf("the nodes are now %v", whole)
	}
	for _, node := range []int{0, 10, 4} {
		ring.With(r, node)
		ring.Without(r, node)
		if !slices.Equal(whole, before) {
			t.Errorf("the nodes are now %v", whole)
		}
	}
	spoil(whole, 500)
	holds(t, "nodes that are others now", first, want)
	holds(t, "other memory", told(ringOf(6, 2, 1, 4, 9)), want)
}

// What becomes of a result is not seen in what the same call returns later, in what
// another one returned before, or in the argument.
func TestResultsAreNewMemory(t *testing.T) {
	r := ringOf(6, 2, 1, 4, 9)
	want := told(r)
	first, second := told(r), told(r)
	for _, l := range first {
		spoil(l, -1)
	}
	holds(t, "spoilt results", second, want)
	holds(t, "spoilt results", told(r), want)
	if !slices.Equal(r.Nodes, []int{1, 4, 9}) {
		t.Errorf("the nodes are now %v", r.Nodes)
	}
	a, b := pointsOf(t, r), pointsOf(t, r)
	spoil(a, api.Point{At: 1, Node: 1})
	if c := pointsOf(t, r); !slices.Equal(b, c) || slices.Equal(a, c) {
		t.Error("points of one call are seen in those of another")
	}
}

// The lists of one call share nothing.
func TestListsShareNothing(t *testing.T) {
	for _, r := range rings() {
		l, _ := ring.Lists(r)
		want, _ := ring.Lists(r)
		for i := 0; i < len(l); i += max(1, len(l)/50) {
			spoil(l[i], -1)
			l[i] = slices.Clone(want[i])
			for j, list := range l {
				if !slices.Equal(list, want[j]) {
					t.Fatalf("%v: list %d is seen in list %d", r, i, j)
				}
			}
		}
		again, _ := ring.Lists(r)
		spoil(l, []int{-1})
		if !slices.EqualFunc(again, want, slices.Equal) {
			t.Errorf("%v: the lists of one call are seen in those of another", r)
		}
	}
}
