package lin_test

import (
	"math"
	"testing"

	"icehouse/api"
	"icehouse/lin"
)

func TestHolds(t *testing.T) {
	x, y := put("x", 0, 5), put("y", 1, 6)
	for name, c := range map[string]struct {
		l     []api.Deed
		order []int
		want  bool
	}{
		"nothing":                               {nil, nil, true},
		"no deed":                               {nil, []int{0}, false},
		"a deed":                                {[]api.Deed{x}, []int{0}, true},
		"a deed that is Done left out":          {[]api.Deed{x}, nil, false},
		"one of two left out":                   {[]api.Deed{x, y}, []int{1}, false},
		"both":                                  {[]api.Deed{x, y}, []int{1, 0}, true},
		"one twice":                             {[]api.Deed{x}, []int{0, 0}, false},
		"one twice, not Done":                   {[]api.Deed{maybe("x", 0, 5)}, []int{0, 0}, false},
		"an index below":                        {[]api.Deed{x}, []int{-1, 0}, false},
		"an index above":                        {[]api.Deed{x}, []int{0, 1}, false},
		"the least int":                         {[]api.Deed{x}, []int{0, math.MinInt}, false},
		"the greatest int":                      {[]api.Deed{x}, []int{math.MaxInt, 0}, false},
		"one that isn't Done":                   {[]api.Deed{maybe("x", 0, 5)}, []int{0}, true},
		"one that isn't Done left out":          {[]api.Deed{maybe("x", 0, 5)}, nil, true},
		"one that has to be first":              {[]api.Deed{put("x", 0, 1), put("y", 2, 3)}, []int{1, 0}, false},
		"one that is first":                     {[]api.Deed{put("x", 0, 1), put("y", 2, 3)}, []int{0, 1}, true},
		"To is From":                            {[]api.Deed{put("x", 0, 2), put("y", 2, 3)}, []int{1, 0}, true},
		"over others":                           {[]api.Deed{put("x", 0, 1), put("y", 0, 9), put("z", 2, 3)}, []int{2, 1, 0}, false},
		"late, then early, then between":        {[]api.Deed{put("x", 5, 9), put("y", 0, 9), put("z", 1, 4)}, []int{0, 1, 2}, false},
		"left out, but ended before":            {[]api.Deed{maybe("x", 0, 1), put("y", 2, 3)}, []int{1}, false},
		"left out, and ended when one began":    {[]api.Deed{maybe("x", 0, 2), put("y", 2, 3)}, []int{1}, true},
		"ended before one that is left out too": {[]api.Deed{maybe("x", 0, 1), maybe("y", 2, 3), put("z", 0, 9)}, []int{2}, true},
		"ended before it began":                 {[]api.Deed{put("x", 9, 0)}, []int{0}, true},
		"two that ended before either began":    {[]api.Deed{put("x", 9, 0), put("y", 8, 1)}, []int{0, 1}, false},
		"the extreme times":                     {[]api.Deed{put("x", math.MinInt, math.MinInt), put("y", math.MaxInt, math.MaxInt)}, []int{0, 1}, true},
		"these the other way round":             {[]api.Deed{put("x", math.MinInt, math.MinInt), put("y", math.MaxInt, math.MaxInt)}, []int{1, 0}, false},
		"From is the least int":                 {[]api.Deed{put("x", math.MinInt, math.MinInt), put("y", math.MinInt, math.MaxInt)}, []int{1, 0}, true},
		"a wrong kind":                          {[]api.Deed{deed(4, "", 0, 9, true)}, []int{0}, false},
		"a wrong kind left out":                 {[]api.Deed{x, deed(0, "", 0, 9, false)}, []int{0}, false},
	} {
		if is := lin.Holds(c.l, c.order...); is != c.want {
			t.Errorf("%s: %v", name, is)
		}
	}
}

func TestHoldsForEachKind(t *testing.T) {
	for _, kind := range kinds() {
		if is := lin.Holds([]api.Deed{deed(kind, "x", 0, 1, false)}); is != isKind(kind) {
			t.Errorf("kind %d: %v", kind, is)
		}
	}
}

// What each Get has read, behind this and that.
func TestHoldsByValues(t *testing.T) {
	l := []api.Deed{
		put("x", 0, 9), put("", 0, 9), put("y", 0, 9), gone(0, 9), deed(api.Delete, "x", 0, 9, true),
		got("x", 0, 9), got("", 0, 9), got("y", 0, 9), none(0, 9), deed(api.Get, "x", 0, 9, true),
	}
	l[8].Val.B = []byte("x")
	for i := range l {
		l[i].Done = false
	}
	for _, c := range []struct {
		order []int
		want  bool
	}{
		{[]int{8}, true}, {[]int{9}, true}, {[]int{5}, false}, {[]int{6}, false},
		{[]int{0, 5}, true}, {[]int{0, 6}, false}, {[]int{0, 7}, false}, {[]int{0, 8}, false}, {[]int{0, 9}, false},
		{[]int{1, 6}, true}, {[]int{1, 8}, false}, {[]int{1, 5}, false}, {[]int{0, 3, 8}, true}, {[]int{0, 3, 5}, false},
		{[]int{0, 4, 8}, true}, {[]int{0, 4, 5}, false}, {[]int{0, 2, 5}, false}, {[]int{0, 2, 7}, true}, {[]int{0, 5, 2, 7}, true},
		{[]int{8, 9, 3, 0, 5, 1, 6, 4}, true}, {[]int{5, 0}, false}, {[]int{3, 6}, false}, {[]int{4, 8, 9}, true},
	} {
		if is := lin.Holds(l, c.order...); is != c.want {
			t.Errorf("%v: %v", c.order, is)
		}
	}
}

// someDeeds are n deeds of vals values, whose times are below most, and some of which
// ended before they began.
func someDeeds(d *dice, n, vals, most int) []api.Deed {
	var l []api.Deed
	for range n {
		from := d.below(most)
		x := api.Deed{Kind: 1 + d.below(3), From: from, To: from + d.below(most-from), Done: d.luck(70)}
		if d.luck(5) {
			x.To = d.below(most)
		}
		if d.luck(10) {
			x.To = most
		}
		v := []byte{byte('x' + d.below(vals))}
		if x.Kind == api.Get && d.luck(75) {
			x.Val = api.Val{Has: true, B: v}
		}
		if x.Kind == api.Put {
			x.B = v
		}
		l = append(l, x)
	}
	return l
}

// rows calls try with all rows of up to most of the numbers from low to high.
func rows(low, high, most int, try func(row []int)) {
	var row []int
	var grow func()
	grow = func() {
		try(row)
		for i := low; i <= high && len(row) < most; i++ {
			row = append(row, i)
			grow()
			row = row[:len(row)-1]
		}
	}
	grow()
}

func holdsAsOnPaper(t *testing.T, l []api.Deed, order []int) bool {
	t.Helper()
	is := lin.Holds(l, order...)
	if is != paperHolds(l, order) {
		t.Errorf("%v is %v of%s", order, is, text(l))
	}
	return is
}

// Some lists of up to four deeds, with all rows of indexes, those that none has included.
func TestHoldsOfAllRows(t *testing.T) {
	count := map[bool]int{}
	for seed := range 4000 {
		d := diceOf(seed)
		n := seed % 4
		l := someDeeds(d, n, 1+d.below(2), 2+d.below(8))
		if d.luck(3) && n > 0 {
			l[d.below(n)].Kind = 4 * d.below(2)
		}
		rows(-1, n, n+1, func(row []int) { count[holdsAsOnPaper(t, l, row)]++ })
		if t.Failed() {
			return
		}
	}
	for seed := range 200 {
		l := someDeeds(diceOf(seed), 4, 2, 10)
		rows(0, 3, 4, func(row []int) { count[holdsAsOnPaper(t, l, row)]++ })
	}
	if count[true] < 2000 || count[false] < 2000 {
		t.Errorf("so many held: %v", count)
	}
}

// Long rows, more than an Order may have.
func TestHoldsOfLongRows(t *testing.T) {
	count := map[bool]int{}
	for seed := range 3000 {
		d := diceOf(seed)
		l, order := inOrder(d, 1+d.below(60))
		switch n := len(order); d.below(6) {
		case 0:
			order = order[:n-1]
		case 1:
			i, j := d.below(n), d.below(n)
			order[i], order[j] = order[j], order[i]
		case 2:
			l[d.below(len(l))].Val = val("w")
		case 3:
			l[d.below(len(l))].From += d.below(40)
		}
		count[holdsAsOnPaper(t, l, order)]++
	}
	if count[true] < 500 || count[false] < 500 {
		t.Errorf("so many held: %v", count)
	}
}

// inOrder are n deeds that were done in the order that is returned, some of which it may
// leave out.
func inOrder(d *dice, n int) ([]api.Deed, []int) {
	l, at := make([]api.Deed, n), make([]int, n)
	for i := range at {
		at[i] = i
	}
	for i := range at {
		j := i + d.below(n-i)
		at[i], at[j] = at[j], at[i]
	}
	var order []int
	var now api.Val
	for place, i := range at {
		x := api.Deed{Kind: 1 + d.below(3), From: 10*place - d.below(40), To: 10*place + d.below(40), Done: true}
		switch x.Kind {
		case api.Get:
			x.Val = now
		case api.Put:
			x.B = []byte{byte('x' + d.below(3))}
			now = api.Val{Has: true, B: x.B}
		case api.Delete:
			now = api.Val{}
		}
		if x.Kind == api.Get && d.luck(5) {
			x.Done, x.To = false, 10*n+40
			l[i] = x
			continue
		}
		l[i], order = x, append(order, i)
	}
	return l, order
}
