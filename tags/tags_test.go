package tags_test

import (
	"math"
	"slices"
	"testing"

	"icehouse/api"
	"icehouse/tags"
)

func tag(seq, who, op int) api.Tag { return api.Tag{Seq: seq, Who: who, Op: op} }

type ranged struct {
	n  int
	in bool
}

// numbersTo: the edges of 0 to most, from both sides, and the extreme numbers.
func numbersTo(most int) []ranged {
	return []ranged{
		{0, true}, {1, true}, {2, true}, {most - 1, true}, {most, true},
		{-1, false}, {-2, false}, {-most, false}, {math.MinInt, false},
		{most + 1, false}, {most + 2, false}, {math.MaxInt, false},
	}
}

// rising: tags in their order, those too that may not be.
func rising() []api.Tag {
	return []api.Tag{
		tag(math.MinInt, math.MinInt, math.MinInt),
		tag(math.MinInt, 0, 0),
		tag(math.MinInt, math.MaxInt, math.MaxInt),
		tag(-1, 9, 9),
		tag(0, -1, 0),
		tag(0, 0, -1),
		tag(0, 0, 0),
		tag(0, 0, 1),
		tag(0, 1, -5),
		tag(1, 0, 0),
		tag(4, 0, 9),
		tag(4, 1, 8),
		tag(4, 1, 9),
		tag(4, 2, 0),
		tag(4, api.MaxID, api.MaxID),
		tag(5, 0, 0),
		tag(5, 0, api.MaxID),
		tag(255, 0, 0),
		tag(256, 0, 0),
		tag(1<<32, 3, 4),
		tag(1<<32+1, 2, 3),
		tag(api.MaxSeq, 0, 0),
		tag(api.MaxSeq, api.MaxID, api.MaxID),
		tag(math.MaxInt, math.MinInt, math.MinInt),
		tag(math.MaxInt, math.MaxInt, math.MinInt),
		tag(math.MaxInt, math.MaxInt, math.MaxInt),
	}
}

func TestCheck(t *testing.T) {
	for _, seq := range numbersTo(api.MaxSeq) {
		for _, who := range numbersTo(api.MaxID) {
			for _, op := range numbersTo(api.MaxID) {
				x := tag(seq.n, who.n, op.n)
				want := api.ErrArg
				if seq.in && who.in && op.in && (seq.n != 0 || who.n == 0 && op.n == 0) {
					want = api.OK
				}
				if got := tags.Check(x); got != want {
					t.Errorf("Check(%v): error %d, not %d", x, got, want)
				}
			}
		}
	}
}

func TestCheckExamples(t *testing.T) {
	for _, c := range []struct {
		x api.Tag
		e api.Errno
	}{
		{tag(0, 0, 0), api.OK},
		{tag(0, 1, 0), api.ErrArg},
		{tag(0, 0, 1), api.ErrArg},
		{tag(0, api.MaxID, api.MaxID), api.ErrArg},
		{tag(1, 0, 0), api.OK},
		{tag(1, 2, 3), api.OK},
		{tag(1099511627775, 1048575, 1048575), api.OK},
		{tag(1099511627776, 0, 0), api.ErrArg},
		{tag(1, 1048576, 0), api.ErrArg},
		{tag(1, 0, 1048576), api.ErrArg},
		{tag(-1, 0, 0), api.ErrArg},
		{tag(1, -1, 0), api.ErrArg},
		{tag(1, 0, -1), api.ErrArg},
	} {
		if got := tags.Check(c.x); got != c.e {
			t.Errorf("Check(%v): error %d, not %d", c.x, got, c.e)
		}
	}
}

// None asks for Seq alone, also of tags that may not be.
func TestNone(t *testing.T) {
	for _, who := range []int{0, 1, -1, api.MaxID, math.MaxInt} {
		for _, op := range []int{0, 1, -1, api.MaxID, math.MinInt} {
			if !tags.None(tag(0, who, op)) {
				t.Errorf("(0, %d, %d) is not None", who, op)
			}
			for _, seq := range []int{1, -1, 2, 1 << 32, api.MaxSeq, math.MaxInt, math.MinInt} {
				if tags.None(tag(seq, who, op)) {
					t.Errorf("(%d, %d, %d) is None", seq, who, op)
				}
			}
		}
	}
}

// The order is total: each two of them have one way round, which is that of their
// places in the list.
func TestCompare(t *testing.T) {
	l := rising()
	for i, a := range l {
		for k, b := range l {
			want := 0
			if i < k {
				want = -1
			} else if i > k {
				want = 1
			}
			if got := tags.Compare(a, b); got != want {
				t.Errorf("Compare(%v, %v) = %d", a, b, got)
			}
		}
	}
	if got := tags.Compare(tag(4, 1, 9), tag(4, 2, 0)); got != -1 {
		t.Errorf("Compare of the example is %d", got)
	}
}

func TestCompareIsATotalOrder(t *testing.T) {
	var l []api.Tag
	for _, seq := range []int{-1, 0, 1, 2} {
		for _, who := range []int{-1, 0, 1} {
			for _, op := range []int{-1, 0, 1} {
				l = append(l, tag(seq, who, op))
			}
		}
	}
	for _, a := range l {
		for _, b := range l {
			ab := tags.Compare(a, b)
			if ab != -tags.Compare(b, a) || (ab == 0) != (a == b) {
				t.Errorf("Compare(%v, %v) = %d, and %d the other way round", a, b, ab, tags.Compare(b, a))
			}
			for _, c := range l {
				if ab <= 0 && tags.Compare(b, c) <= 0 && tags.Compare(a, c) > 0 {
					t.Errorf("Compare: %v, %v, %v", a, b, c)
				}
			}
		}
	}
}

func TestMax(t *testing.T) {
	for _, c := range []struct {
		l    []api.Tag
		want api.Tag
	}{
		{nil, tag(0, 0, 0)},
		{[]api.Tag{}, tag(0, 0, 0)},
		{[]api.Tag{tag(4, 1, 9)}, tag(4, 1, 9)},
		{[]api.Tag{tag(0, 0, 0)}, tag(0, 0, 0)},
		{[]api.Tag{tag(4, 1, 9), tag(4, 1, 9)}, tag(4, 1, 9)},
		{[]api.Tag{tag(1, 9, 9), tag(2, 0, 1), tag(2, 0, 0)}, tag(2, 0, 1)},
		{[]api.Tag{tag(3, 0, 0), tag(2, 7, 0), tag(2, 0, 7)}, tag(3, 0, 0)},
		{[]api.Tag{tag(2, 0, 7), tag(2, 6, 0), tag(2, 7, 0)}, tag(2, 7, 0)},
		{[]api.Tag{tag(-1, 0, 0)}, tag(-1, 0, 0)}, // the zero tag is none of them
		{[]api.Tag{tag(-3, 1, 1), tag(-2, 0, 0), tag(math.MinInt, 5, 5)}, tag(-2, 0, 0)},
		{[]api.Tag{tag(math.MinInt, 0, 0), tag(math.MaxInt, 0, 0)}, tag(math.MaxInt, 0, 0)},
	} {
		before := slices.Clone(c.l)
		if got := tags.Max(c.l...); got != c.want {
			t.Errorf("Max(%v) = %v", c.l, got)
		}
		if !slices.Equal(c.l, before) {
			t.Errorf("Max changed %v", before)
		}
	}
	if got := tags.Max(); got != (api.Tag{}) {
		t.Errorf("Max() = %v", got)
	}
}

// The greatest one is found at each place.
func TestMaxAtEachPlace(t *testing.T) {
	for n := 1; n <= len(rising()); n++ {
		l := rising()[:n]
		want := l[n-1]
		for range n {
			l = append(l[1:], l[0])
			if got := tags.Max(l...); got != want {
				t.Errorf("Max(%v) = %v", l, got)
			}
		}
	}
}

func TestNext(t *testing.T) {
	for _, c := range []struct {
		x       api.Tag
		who, op int
		want    api.Tag
	}{
		{tag(4, 1, 9), 7, 2, tag(5, 7, 2)},
		{tag(0, 0, 0), 3, 4, tag(1, 3, 4)},
		{tag(0, 0, 0), 0, 0, tag(1, 0, 0)},
		{tag(1, api.MaxID, api.MaxID), 0, 0, tag(2, 0, 0)},
		{tag(1, 0, 0), api.MaxID, api.MaxID, tag(2, api.MaxID, api.MaxID)},
		{tag(255, 1, 2), 1, 2, tag(256, 1, 2)},
		{tag(api.MaxSeq-1, 5, 6), 0, 1, tag(api.MaxSeq, 0, 1)},
	} {
		got, e := tags.Next(c.x, c.who, c.op)
		if got != c.want || e != api.OK {
			t.Errorf("Next(%v, %d, %d) = %v, error %d", c.x, c.who, c.op, got, e)
		}
	}
}

func TestNextErrors(t *testing.T) {
	for _, c := range []struct {
		x       api.Tag
		who, op int
		e       api.Errno
	}{
		{tag(0, 1, 0), 3, 4, api.ErrArg},
		{tag(0, 0, 1), 3, 4, api.ErrArg},
		{tag(-1, 0, 0), 3, 4, api.ErrArg},
		{tag(1, -1, 0), 3, 4, api.ErrArg},
		{tag(1, 0, api.MaxID+1), 3, 4, api.ErrArg},
		{tag(api.MaxSeq+1, 0, 0), 3, 4, api.ErrArg},
		{tag(math.MaxInt, 0, 0), 3, 4, api.ErrArg},
		{tag(1, 0, 0), -1, 4, api.ErrArg},
		{tag(1, 0, 0), 4, -1, api.ErrArg},
		{tag(1, 0, 0), api.MaxID + 1, 4, api.ErrArg},
		{tag(1, 0, 0), api.MaxID, api.MaxID + 1, api.ErrArg},
		{tag(0, 0, 0), math.MinInt, 0, api.ErrArg},
		{tag(0, 0, 0), 0, math.MaxInt, api.ErrArg},
		{tag(api.MaxSeq, 0, 0), 1, 1, api.ErrLong},
		{tag(api.MaxSeq, api.MaxID, api.MaxID), api.MaxID, api.MaxID, api.ErrLong},
		{tag(api.MaxSeq, 0, 0), -1, 1, api.ErrArg}, // who and op come before that there is no number left
		{tag(api.MaxSeq, 0, 0), 1, api.MaxID + 1, api.ErrArg},
		{tag(api.MaxSeq, api.MaxID+1, 0), 1, 1, api.ErrArg},
	} {
		got, e := tags.Next(c.x, c.who, c.op)
		if got != (api.Tag{}) || e != c.e {
			t.Errorf("Next(%v, %d, %d) = %v, error %d, not %d", c.x, c.who, c.op, got, e, c.e)
		}
	}
}

// Whatever it is given, Next returns a tag that may be, and is greater, or an
// error and the zero tag.
func TestNextIsGreater(t *testing.T) {
	ids := []int{math.MinInt, -1, 0, 1, 7, api.MaxID, api.MaxID + 1, math.MaxInt}
	for _, x := range rising() {
		for _, who := range ids {
			for _, op := range ids {
				got, e := tags.Next(x, who, op)
				switch {
				case e != api.OK && got != (api.Tag{}):
					t.Errorf("Next(%v, %d, %d) = %v beside the error %d", x, who, op, got, e)
				case e == api.OK && (tags.Check(got) != api.OK || tags.None(got) || tags.Compare(got, x) != 1):
					t.Errorf("Next(%v, %d, %d) = %v", x, who, op, got)
				}
			}
		}
	}
}
