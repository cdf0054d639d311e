package quorum_test

import (
	"math"
	"slices"
	"testing"

	"icehouse/quorum"
)

// row: n numbers, the first one and each other one so much above the one before.
func row(n, first, step int) []int {
	var out []int
	for i := range n {
		out = append(out, first+i*step)
	}
	return out
}

// rows: all rows of up to n of the given nodes.
func rows(n int, nodes ...int) [][]int {
	out := [][]int{nil}
	from := 0
	for range n {
		to := len(out)
		for _, l := range out[from:to] {
			for _, node := range nodes {
				out = append(out, append(slices.Clone(l), node))
			}
		}
		from = to
	}
	return out
}

// chosen: the elements of list whose bits are set.
func chosen(list []int, bits int) []int {
	var out []int
	for i, node := range list {
		if bits>>i&1 == 1 {
			out = append(out, node)
		}
	}
	return out
}

// majority: by the words of the chapter, more than half of the different nodes.
func majority(list, got []int) bool {
	all, here := map[int]struct{}{}, map[int]struct{}{}
	for _, node := range list {
		all[node] = struct{}{}
	}
	for _, node := range got {
		if _, ok := all[node]; ok {
			here[node] = struct{}{}
		}
	}
	return len(here) > len(all)-len(here)
}

// common: by the words of the chapter.
func common(a, b []int) []int {
	var out []int
	for _, node := range a {
		if slices.Contains(b, node) && !slices.Contains(out, node) {
			out = append(out, node)
		}
	}
	return out
}

// nodes: of all kinds, those that no ring may have too.
func nodes() []int {
	return []int{0, 1, 2, -1, 1 << 20, math.MaxInt, math.MinInt}
}

func TestNeed(t *testing.T) {
	for n, want := range []int{0, 1, 2, 2, 3, 3, 4, 4, 5} {
		if got := quorum.Need(n); got != want {
			t.Errorf("Need(%d) = %d, not %d", n, got, want)
		}
	}
	for _, c := range []struct{ n, want int }{
		{63, 32}, {64, 33}, {1 << 40, 1<<39 + 1}, {math.MaxInt - 1, 1 << 62}, {math.MaxInt, 1 << 62},
		{-1, 0}, {-2, 0}, {-3, 0}, {-64, 0}, {math.MinInt, 0}, {math.MinInt + 1, 0},
	} {
		if got := quorum.Need(c.n); got != c.want {
			t.Errorf("Need(%d) = %d, not %d", c.n, got, c.want)
		}
	}
}

// Need is the least number that is more than what is left.
func TestNeedIsMoreThanHalf(t *testing.T) {
	for n := 1; n < 1000; n++ {
		if got := quorum.Need(n); got <= n-got || got-1 > n-(got-1) {
			t.Errorf("Need(%d) = %d", n, got)
		}
	}
}

func TestEnough(t *testing.T) {
	for _, c := range []struct {
		list, got []int
		want      bool
	}{
		{[]int{1, 2, 3}, []int{3, 9, 1}, true},
		{[]int{1, 2, 3}, []int{1}, false},
		{[]int{1, 2, 3}, []int{1, 1, 1}, false},
		{[]int{1, 2, 3}, []int{4, 5, 6, 7}, false},
		{[]int{1, 2, 3}, []int{3, 2, 1}, true},
		{[]int{1, 2, 3, 4}, []int{1, 2}, false},
		{[]int{1, 2, 3, 4}, []int{4, 2, 1}, true},
		{[]int{1, 2, 3, 4}, []int{1, 2, 5, 6}, false},
		{[]int{3, 1, 2}, []int{2, 3}, true},
		{[]int{5}, []int{5}, true},
		{[]int{5}, []int{4, 6}, false},
		{[]int{5}, nil, false},
		{[]int{5, 5, 5}, []int{5}, true},
		{[]int{1, 1, 2}, []int{1}, false},
		{[]int{1, 1, 1, 2, 3}, []int{1}, false},
		{[]int{1, 1, 1, 2, 3}, []int{2, 3}, true},
		{nil, nil, false},
		{nil, []int{1}, false},
		{[]int{}, []int{0}, false},
		{[]int{0}, nil, false},
		{[]int{0, 1}, []int{0, 0}, false},
		{[]int{math.MinInt, -1, math.MaxInt}, []int{math.MaxInt, math.MinInt}, true},
	} {
		if is := quorum.Enough(c.list, c.got...); is != c.want {
			t.Errorf("Enough(%v, %v) = %v", c.list, c.got, is)
		}
	}
}

// All lists of up to five of four nodes with all rows of up to four of five nodes.
func TestEnoughOfAllSmallLists(t *testing.T) {
	for _, list := range rows(5, 7, 2, -1, 1<<40) {
		for _, got := range rows(4, 2, -1, 1<<40, 7, 0) {
			if is := quorum.Enough(list, got...); is != majority(list, got) {
				t.Errorf("Enough(%v, %v) = %v", list, got, is)
			}
		}
	}
}

// Need of the different nodes are enough, one less are not, wherever they are.
func TestEnoughIsNeed(t *testing.T) {
	for n := 1; n <= 70; n++ {
		list := row(n, 3, 5)
		twice := slices.Concat(list, list, list[:n/2])
		for from := range n {
			turned := slices.Concat(list[from:], list[:from])
			few, many := turned[:quorum.Need(n)-1], turned[:quorum.Need(n)]
			if quorum.Enough(list, few...) || quorum.Enough(twice, few...) || quorum.Enough(turned, slices.Concat(few, few)...) {
				t.Errorf("%v are enough of %d", few, n)
			}
			if !quorum.Enough(list, many...) || !quorum.Enough(twice, many...) || !quorum.Enough(turned, slices.Concat(many, many)...) {
				t.Errorf("%v are not enough of %d", many, n)
			}
		}
	}
}

// Two majorities of one list have a node in common.
func TestMajoritiesMeet(t *testing.T) {
	for n := 1; n <= 7; n++ {
		list := row(n, 30, -4)
		for one := range 1 << n {
			a := chosen(list, one)
			if !quorum.Enough(list, a...) {
				continue
			}
			for two := range 1 << n {
				b := chosen(list, two)
				if quorum.Enough(list, b...) && (len(quorum.Common(a, b)) == 0 || !quorum.Meet(n, len(a), len(b))) {
					t.Errorf("%v and %v of %v have nothing in common", a, b, list)
				}
			}
		}
	}
}

// sizesMeet: whether all pairs of sets of these sizes do.
func sizesMeet(n, a, b int) bool {
	list := row(n, 0, 1)
	for one := range 1 << n {
		for two := range 1 << n {
			if len(chosen(list, one)) == a && len(chosen(list, two)) == b && one&two == 0 {
				return false
			}
		}
	}
	return true
}

func TestMeet(t *testing.T) {
	for n := range 7 {
		for a := range n + 1 {
			for b := range n + 1 {
				if is := quorum.Meet(n, a, b); is != sizesMeet(n, a, b) {
					t.Errorf("Meet(%d, %d, %d) = %v", n, a, b, is)
				}
			}
		}
	}
}

// Sets of fewer than no nodes, or of more than all, there are not.
func TestMeetOfNoSets(t *testing.T) {
	for n := -3; n <= 6; n++ {
		for a := -3; a <= 9; a++ {
			for b := -3; b <= 9; b++ {
				if (a < 0 || a > n || b < 0 || b > n) && quorum.Meet(n, a, b) {
					t.Errorf("Meet(%d, %d, %d)", n, a, b)
				}
			}
		}
	}
}

func TestMeetOfGreatNumbers(t *testing.T) {
	const most, least = math.MaxInt, math.MinInt
	for _, c := range []struct {
		n, a, b int
		want    bool
	}{
		{most, most, most, true}, {most, most, 1, true}, {most, 1, most, true}, {most, most, 0, false}, {most, 0, most, false},
		{most, 1 << 62, 1 << 62, true}, {most, 1 << 62, 1<<62 - 1, false}, {most - 1, 1 << 62, 1<<62 - 1, true},
		{most, 0, 0, false}, {most, -1, most, false}, {most, most, -1, false}, {most, least, least, false}, {most, least, most, false},
		{most - 1, most, most, false}, {most - 1, most - 1, most, false}, {0, most, most, false}, {5, most, 1, false}, {5, 1, most, false},
		{least, least, least, false}, {least, 0, 0, false}, {-1, -1, -1, false}, {-1, 0, 0, false}, {least, most, most, false}, {0, least, 0, false},
	} {
		if is := quorum.Meet(c.n, c.a, c.b); is != c.want {
			t.Errorf("Meet(%d, %d, %d) = %v", c.n, c.a, c.b, is)
		}
	}
}

func TestCommon(t *testing.T) {
	for _, c := range []struct{ a, b, want []int }{
		{[]int{4, 2, 4, 1}, []int{1, 4}, []int{4, 1}},
		{[]int{1, 2, 3}, []int{3, 2, 1}, []int{1, 2, 3}},
		{[]int{3, 1, 2}, []int{1, 2, 3, 4}, []int{3, 1, 2}},
		{[]int{2, 1, 2, 1, 2}, []int{2, 2}, []int{2}},
		{[]int{1, 2, 1}, []int{2, 1}, []int{1, 2}},
		{[]int{0, 5}, []int{0}, []int{0}},
		{[]int{5}, []int{0}, nil},
		{[]int{1, 3, 5}, []int{0, 2, 4, 6}, nil},
		{nil, []int{1}, nil},
		{[]int{1}, nil, nil},
		{nil, nil, nil},
		{nodes(), []int{math.MinInt, math.MaxInt, -1}, []int{-1, math.MaxInt, math.MinInt}},
	} {
		if got := quorum.Common(c.a, c.b); !slices.Equal(got, c.want) {
			t.Errorf("Common(%v, %v) = %v, not %v", c.a, c.b, got, c.want)
		}
	}
}

// All pairs of rows of up to four of some nodes.
func TestCommonOfAllSmallLists(t *testing.T) {
	all := rows(4, nodes()[2:6]...)
	for _, a := range all {
		for _, b := range all {
			if got := quorum.Common(a, b); !slices.Equal(got, common(a, b)) {
				t.Errorf("Common(%v, %v) = %v, not %v", a, b, got, common(a, b))
			}
		}
	}
}

// Lists that are far longer than those of a ring are answered too.
func TestLongLists(t *testing.T) {
	const n = 1 << 18
	list, odd := row(n, n, -1), row(n/2, 1, 2)
	if l := quorum.Common(list, odd); len(l) != n/2 || l[0] != n-1 || l[n/2-1] != 1 {
		t.Errorf("%d are in common", len(l))
	}
	if quorum.Enough(list, odd...) || quorum.Enough(list, slices.Concat(odd, odd)...) || !quorum.Enough(list, append(odd, 2)...) {
		t.Error("half of the nodes are enough, or one more are not")
	}
	c, e := quorum.New(list...)
	if c.Left() != n/2+1 || c.Done() || c.Add(n) != 0 || c.Add(1) != 0 || !slices.Equal(c.Got(), []int{n, 1}) || e != 0 {
		t.Errorf("%d are left, error %d", c.Left(), e)
	}
	if c, e := quorum.New(append(list, n/2)...); c != nil || e == 0 {
		t.Error("a node is there twice")
	}
}
