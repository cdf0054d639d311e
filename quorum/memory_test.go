package quorum_test

import (
	"slices"
	"testing"

	"icehouse/api"
	"icehouse/quorum"
)

// spoil overwrites a slice up to its capacity.
func spoil(l []int) {
	l = l[:cap(l)]
	for i := range l {
		l[i] = -77
	}
}

// Arguments of all calls, unsorted and with others behind them, are left as they are.
func TestArgumentsAreLeftAlone(t *testing.T) {
	wholeList, wholeGot, wholeNodes := []int{5, 1, 5, 3, 4, 99, 98}, []int{4, 1, 9, 1, 5, 97}, []int{1, 4, 5, 9, 96, 95}
	list, got, r := wholeList[:5], wholeGot[:5], ringOf(3, 2, wholeNodes[:4]...)
	quorum.Enough(list, got...)
	quorum.Common(list, got)
	quorum.Common(got, list)
	quorum.Common(got, got)
	quorum.Covers(r, got...)
	quorum.Lost(r, got...)
	quorum.Lost(r, got[:1]...)
	quorum.New(list...)
	c := countOf(t, wholeList[2:5]...)
	for _, node := range got {
		c.Add(node)
	}
	for name, l := range map[string][][]int{
		"the list":  {wholeList, {5, 1, 5, 3, 4, 99, 98}},
		"got":       {wholeGot, {4, 1, 9, 1, 5, 97}},
		"the nodes": {wholeNodes, {1, 4, 5, 9, 96, 95}},
	} {
		if !slices.Equal(l[0], l[1]) {
			t.Errorf("%s: now %v", name, l[0])
		}
	}
}

// What becomes of a list later is not seen in its Count.
func TestListsAreNotRetained(t *testing.T) {
	list := []int{7, 2, 5}
	c := countOf(t, list...)
	spoil(list)
	if c.Add(-77) != api.ErrNone || c.Add(2) != api.OK || c.Add(7) != api.OK || !slices.Equal(c.Got(), []int{7, 2}) {
		t.Errorf("%v are counted", c.Got())
	}
	dead := []int{1}
	r := ringOf(2, 2, 1, 4, 9)
	first, _ := quorum.Lost(r, dead...)
	spoil(dead)
	spoil(r.Nodes)
	if !slices.Equal(first, []int{1, 2, 3, 4}) {
		t.Errorf("%v are lost", first)
	}
}

// What becomes of a result is not seen in another one, in a Count, or in an argument.
func TestResultsAreNewMemory(t *testing.T) {
	a, b := []int{3, 1, 2}, []int{2, 3, 1}
	first, second := quorum.Common(a, b), quorum.Common(a, b)
	spoil(first)
	if !slices.Equal(second, a) || !slices.Equal(quorum.Common(a, b), []int{3, 1, 2}) || !slices.Equal(b, []int{2, 3, 1}) {
		t.Errorf("of %v and %v %v are in common", a, b, second)
	}
	same := quorum.Common(a, a)
	spoil(same)
	if !slices.Equal(a, []int{3, 1, 2}) {
		t.Errorf("the list is now %v", a)
	}
	r := ringOf(2, 2, 1, 4, 9)
	one, _ := quorum.Lost(r, 9)
	two, _ := quorum.Lost(r, 9)
	spoil(one)
	three, _ := quorum.Lost(r, 9)
	if want := []int{0, 1, 2, 5}; !slices.Equal(two, want) || !slices.Equal(three, want) || !slices.Equal(r.Nodes, []int{1, 4, 9}) {
		t.Errorf("%v and %v are lost", two, three)
	}
	c := countOf(t, 7, 2, 5)
	c.Add(5)
	c.Add(7)
	before, again := c.Got(), c.Got()
	spoil(before)
	if !slices.Equal(again, []int{7, 5}) || !slices.Equal(c.Got(), []int{7, 5}) || c.Add(-77) != api.ErrNone || c.Add(2) != api.OK {
		t.Errorf("%v are counted", c.Got())
	}
	if !slices.Equal(again, []int{7, 5}) {
		t.Errorf("what was counted before is now %v", again)
	}
}

// A Count of a list doesn't know of another one of the same list.
func TestCountsAreIndependent(t *testing.T) {
	list := []int{7, 2, 5}
	a, b := countOf(t, list...), countOf(t, list...)
	a.Add(7)
	a.Add(2)
	if !a.Done() || b.Done() || len(b.Got()) != 0 || b.Left() != 2 {
		t.Errorf("the other one has %v", b.Got())
	}
	b.Add(5)
	if !slices.Equal(a.Got(), []int{7, 2}) || !slices.Equal(b.Got(), []int{5}) {
		t.Errorf("they have %v and %v", a.Got(), b.Got())
	}
}

// The same call answers the same again, whatever was asked in between.
func TestAnswersAreRepeated(t *testing.T) {
	r := ringOf(5, 3, row(12, 2, 9)...)
	first, _ := quorum.Lost(r, 2, 11, 20, 29)
	for n := range 20 {
		quorum.Lost(r, r.Nodes[:n%12]...)
		again, e := quorum.Lost(r, 29, 20, 11, 2)
		if !slices.Equal(first, again) || e != api.OK {
			t.Errorf("%v are lost, then %v", first, again)
		}
	}
}
