package quorum_test

import (
	"math"
	"slices"
	"testing"

	"icehouse/api"
	"icehouse/quorum"
)

func countOf(t *testing.T, list ...int) *quorum.Count {
	t.Helper()
	c, e := quorum.New(list...)
	if c == nil || e != api.OK {
		t.Fatalf("New(%v): error %d", list, e)
	}
	return c
}

func TestNew(t *testing.T) {
	for _, list := range [][]int{{0}, {5}, {-1}, {1, 2}, {7, 2, 5}, {3, 2, 1, 0}, nodes(), row(64, 0, 1), row(200, 9, -3)} {
		c := countOf(t, list...)
		if l := c.Got(); len(l) != 0 || c.Done() || c.Left() != len(list)/2+1 {
			t.Errorf("New(%v) has %v, %d are left, done %v", list, l, c.Left(), c.Done())
		}
	}
}

// Each pair of places at which a node may be twice is found.
func TestNewOfWrongLists(t *testing.T) {
	wrong := [][]int{nil, {}, {1, 1}, {0, 0}, {1, 2, 1}, {-1, 3, -1}, {math.MinInt, math.MaxInt, math.MinInt}, {2, 2, 2}}
	for n := 2; n <= 20; n++ {
		for j := range n {
			for i := range j {
				l := row(n, 40, -2)
				l[j] = l[i]
				wrong = append(wrong, l)
			}
		}
	}
	for _, list := range wrong {
		if c, e := quorum.New(list...); c != nil || e != api.ErrArg {
			t.Errorf("New(%v) = %v, error %d", list, c, e)
		}
	}
}

func TestAdd(t *testing.T) {
	c := countOf(t, 7, 2, 5, 9)
	for i, s := range []struct {
		node int
		e    api.Errno
		got  []int
		left int
	}{
		{5, api.OK, []int{5}, 2}, {5, api.OK, []int{5}, 2}, {6, api.ErrNone, []int{5}, 2}, {-5, api.ErrNone, []int{5}, 2},
		{7, api.OK, []int{7, 5}, 1}, {0, api.ErrNone, []int{7, 5}, 1}, {7, api.OK, []int{7, 5}, 1}, {9, api.OK, []int{7, 5, 9}, 0},
		{9, api.OK, []int{7, 5, 9}, 0}, {2, api.OK, []int{7, 2, 5, 9}, 0}, {3, api.ErrNone, []int{7, 2, 5, 9}, 0}, {5, api.OK, []int{7, 2, 5, 9}, 0},
	} {
		if e := c.Add(s.node); e != s.e || !slices.Equal(c.Got(), s.got) || c.Left() != s.left || c.Done() != (s.left == 0) {
			t.Errorf("call %d: Add(%d) = %d, then %v, %d are left, done %v", i, s.node, e, c.Got(), c.Left(), c.Done())
		}
	}
}

// All rows of up to five nodes, some of them not of the list, are counted as they are
// by the words of the chapter.
func TestAllRowsOfNodes(t *testing.T) {
	for _, list := range [][]int{{4}, {4, 1}, {4, 1, 8}, {8, -1, 1, 4}, {0, 8, 4, 1, math.MaxInt}} {
		for _, added := range rows(5, append(slices.Clone(list), 3)...) {
			c := countOf(t, list...)
			for i, node := range added {
				want := api.OK
				if !slices.Contains(list, node) {
					want = api.ErrNone
				}
				if e := c.Add(node); e != want {
					t.Errorf("%v of %v: Add(%d) = %d", added[:i], list, node, e)
				}
			}
			counted := common(list, added)
			if l := c.Got(); !slices.Equal(l, counted) {
				t.Errorf("%v of %v: %v are counted", added, list, l)
			}
			if n := c.Left(); n != max(0, len(list)/2+1-len(counted)) {
				t.Errorf("%v of %v: %d are left", added, list, n)
			}
			if c.Done() != majority(list, added) || c.Done() != quorum.Enough(list, added...) {
				t.Errorf("%v of %v: done %v", added, list, c.Done())
			}
		}
	}
}

// Left falls to 0 with the last node that is needed, and stays there.
func TestCountsOfAllSizes(t *testing.T) {
	for n := 1; n <= 70; n++ {
		list := row(n, 100, -1)
		c := countOf(t, list...)
		for i := n - 1; i >= 0; i-- {
			if e := c.Add(list[i]); e != api.OK {
				t.Errorf("Add(%d) = %d", list[i], e)
			}
			left := max(0, n/2+1-(n-i))
			if c.Left() != left || c.Done() != (left == 0) || !slices.Equal(c.Got(), list[i:]) {
				t.Errorf("%d of %d: %d are left, done %v", n-i, n, c.Left(), c.Done())
			}
		}
	}
}

func TestNilCount(t *testing.T) {
	var c *quorum.Count
	for _, node := range nodes() {
		if e := c.Add(node); e != api.ErrNil {
			t.Errorf("Add(%d) = %d", node, e)
		}
	}
	if len(c.Got()) != 0 || c.Left() != 0 || c.Done() {
		t.Errorf("got %v, %d are left, done %v", c.Got(), c.Left(), c.Done())
	}
}

// A Count that New has not made has no list: of no nodes there are never enough.
func TestZeroCount(t *testing.T) {
	var c quorum.Count
	for _, node := range nodes() {
		if e := c.Add(node); e != api.ErrNone {
			t.Errorf("Add(%d) = %d", node, e)
		}
	}
	if len(c.Got()) != 0 || c.Left() != 0 || c.Done() {
		t.Errorf("got %v, %d are left, done %v", c.Got(), c.Left(), c.Done())
	}
}
