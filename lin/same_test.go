package lin_test

import (
	"slices"
	"testing"

	"icehouse/api"
	"icehouse/lin"
)

// notes differ from each other, some in one field alone.
func notes() []api.Note {
	c, a := call(1, api.Put, "k", "x"), told(1, val("x"))
	out := []api.Note{{}, {IsAnswer: true}, c, a}
	for _, change := range []func(n *api.Note){
		func(n *api.Note) { n.IsAnswer = !n.IsAnswer },
		func(n *api.Note) { n.Call.ID = 7 },
		func(n *api.Note) { n.Call.Kind = api.Delete },
		func(n *api.Note) { n.Call.Key = "K" },
		func(n *api.Note) { n.Call.Key = "kk" },
		func(n *api.Note) { n.Call.B = []byte("y") },
		func(n *api.Note) { n.Call.B = []byte("xx") },
		func(n *api.Note) { n.Answer.ID = 7 },
		func(n *api.Note) { n.Answer.E = api.ErrTime },
		func(n *api.Note) { n.Answer.Val = val("y") },
		func(n *api.Note) { n.Answer.Val = val("") },
	} {
		for _, n := range []api.Note{c, a} {
			change(&n)
			out = append(out, n)
		}
	}
	c.Call.B, a.Answer.Val = nil, api.Val{}
	return append(out, c, a)
}

func TestSame(t *testing.T) {
	all, again := notes(), notes()
	for i, a := range all {
		for j, b := range again {
			for _, h := range [][]api.Note{nil, {call(5, api.Get, "j", "")}} {
				for _, tail := range [][]api.Note{nil, {answer(5, api.OK)}} {
					x, y := slices.Concat(h, []api.Note{a}, tail), slices.Concat(h, []api.Note{b}, tail)
					if is := lin.Same(x, y); is != (i == j) {
						t.Errorf("%v and %v: %v", x, y, is)
					}
				}
			}
		}
	}
}

func TestSameByLength(t *testing.T) {
	all := notes()
	for n := range len(all) + 1 {
		for m := range len(all) + 1 {
			if is := lin.Same(all[:n], all[:m]); is != (n == m) {
				t.Errorf("the first %d and the first %d: %v", n, m, is)
			}
		}
	}
	if !lin.Same(nil, []api.Note{}) || lin.Same(nil, []api.Note{{}}) || lin.Same([]api.Note{{}}, nil) {
		t.Error("no notes are the same as none")
	}
}

// An order of notes is part of a history.
func TestSameByOrder(t *testing.T) {
	all := notes()
	for i := range len(all) - 1 {
		other := slices.Clone(all)
		other[i], other[i+1] = other[i+1], other[i]
		if lin.Same(all, other) {
			t.Errorf("the same, though %d and %d have changed places", i, i+1)
		}
	}
}

// Without a value its bytes don't count, and no bytes are like empty ones.
func TestSameByValues(t *testing.T) {
	empty, odd := told(1, api.Val{}), told(1, api.Val{})
	odd.Answer.Val.B = []byte("odd")
	if !lin.Same([]api.Note{empty}, []api.Note{odd}) || !lin.Same([]api.Note{odd}, []api.Note{empty}) {
		t.Error("no value differs from no value")
	}
	a, b := told(1, api.Val{Has: true}), told(1, val(""))
	if !lin.Same([]api.Note{a}, []api.Note{b}) || lin.Same([]api.Note{a}, []api.Note{empty}) || lin.Same([]api.Note{a}, []api.Note{odd}) {
		t.Error("an empty value")
	}
	a, b = call(1, api.Put, "k", ""), call(1, api.Put, "k", "")
	a.Call.B = nil
	if !lin.Same([]api.Note{a}, []api.Note{b}) {
		t.Error("no bytes differ from empty ones")
	}
}
