package ring

import (
	"slices"
	"testing"

	"icehouse/api"
)

// No two points of the nodes from 0 to MaxID are equal, nor have they the same word:
// what is to be done with such ones is shown with points that belong to no ring.
func sameWords() []api.Point {
	return []api.Point{{At: 5, Node: 3}, {At: 5, Node: 7}, {At: 8, Node: 2}, {At: 8, Node: 3}, {At: 8, Node: 9}, {At: 9, Node: 1}}
}

// Whatever their order was, the points are sorted by At, then by Node, each once.
func TestArranged(t *testing.T) {
	want := sameWords()
	for turn := range want {
		l := slices.Concat(want[turn:], want[:turn])
		if got := arranged(slices.Clone(l)); !slices.Equal(got, want) {
			t.Errorf("%v is arranged as %v", l, got)
		}
		slices.Reverse(l)
		if got := arranged(slices.Clone(l)); !slices.Equal(got, want) {
			t.Errorf("%v is arranged as %v", l, got)
		}
		twice := slices.Concat(l, want, want[turn:])
		if got := arranged(slices.Clone(twice)); !slices.Equal(got, want) {
			t.Errorf("%v is arranged as %v", twice, got)
		}
	}
}

func TestSegmentOfSameWords(t *testing.T) {
	for h, want := range []int{0, 0, 0, 0, 0, 0, 2, 2, 2, 5, 0, 0} {
		if got := segment(sameWords(), uint64(h)); got != want {
			t.Errorf("the segment of %d is %d, not %d", h, got, want)
		}
	}
}

func TestFollowingOfSameWords(t *testing.T) {
	for _, c := range []struct {
		h    uint64
		want []int
	}{
		{0, []int{3, 7, 2, 9, 1}}, {5, []int{3, 7, 2, 9, 1}}, {6, []int{2, 3, 9, 1, 7}}, {8, []int{2, 3, 9, 1, 7}},
		{9, []int{1, 3, 7, 2, 9}}, {10, []int{3, 7, 2, 9, 1}},
	} {
		for keep := 1; keep <= len(c.want); keep++ {
			if got := following(sameWords(), c.h, keep); !slices.Equal(got, c.want[:keep]) {
				t.Errorf("%d nodes from %d on are %v, not %v", keep, c.h, got, c.want[:keep])
			}
		}
	}
}

// Points with the same word have the same list, that of the first of them.
func TestListsOfSameWords(t *testing.T) {
	want := [][]int{{3, 7, 2}, {3, 7, 2}, {2, 3, 9}, {2, 3, 9}, {2, 3, 9}, {1, 3, 7}}
	if got := lists(sameWords(), 3); !slices.EqualFunc(got, want, slices.Equal) {
		t.Errorf("the lists are %v, not %v", got, want)
	}
}
