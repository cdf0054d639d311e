package lin_test

import (
	"bytes"
	"math"
	"slices"
	"strconv"
	"testing"

	"icehouse/api"
	"icehouse/tags"
)

func val(s string) api.Val { return api.Val{Has: true, B: []byte(s)} }

func call(id, kind int, key, b string) api.Note {
	return api.Note{Call: api.Call{ID: id, Kind: kind, Key: key, B: []byte(b)}}
}

func answer(id int, e api.Errno) api.Note {
	return api.Note{IsAnswer: true, Answer: api.Answer{ID: id, E: e}}
}

// told is the answer to a Get.
func told(id int, v api.Val) api.Note {
	return api.Note{IsAnswer: true, Answer: api.Answer{ID: id, Val: v}}
}

func deed(kind int, b string, from, to int, done bool) api.Deed {
	return api.Deed{Kind: kind, B: []byte(b), From: from, To: to, Done: done}
}

func put(b string, from, to int) api.Deed { return deed(api.Put, b, from, to, true) }

// maybe is a Put that isn't Done.
func maybe(b string, from, to int) api.Deed { return deed(api.Put, b, from, to, false) }

func gone(from, to int) api.Deed { return deed(api.Delete, "", from, to, true) }

func got(b string, from, to int) api.Deed {
	d := none(from, to)
	d.Val = val(b)
	return d
}

// none is a Get of no value.
func none(from, to int) api.Deed { return deed(api.Get, "", from, to, true) }

func sameDeed(a, b api.Deed) bool {
	return a.Kind == b.Kind && bytes.Equal(a.B, b.B) && a.From == b.From && a.To == b.To && a.Done == b.Done &&
		a.Val.Has == b.Val.Has && bytes.Equal(a.Val.B, b.Val.B)
}

func sameDeeds(a, b []api.Deed) bool { return slices.EqualFunc(a, b, sameDeed) }

// kinds: the three, and others.
func kinds() []int {
	return []int{api.Get, api.Put, api.Delete, 0, 4, -1, -2, 5, 256 + api.Put, math.MaxInt, math.MinInt}
}

func isKind(kind int) bool { return kind >= 1 && kind <= 3 }

// errors: all of api, and others.
func errors() []api.Errno {
	return []api.Errno{
		api.OK, api.ErrTime, api.ErrBusy, api.ErrNil, api.ErrArg, api.ErrLong, api.ErrNone, api.ErrNaN, api.ErrForm,
		api.ErrShort, api.ErrSum, -1, -30, 31, 39, 41, 99, math.MaxInt, math.MinInt,
	}
}

// dice are the same in each run.
type dice struct{ n uint64 }

func diceOf(seed int) *dice { return &dice{uint64(seed)*2 + 1} }

func (d *dice) below(n int) int {
	d.n ^= d.n << 13
	d.n ^= d.n >> 7
	d.n ^= d.n << 17
	return int(d.n * 2685821657736338717 >> 33 % uint64(n))
}

func (d *dice) luck(percent int) bool { return d.below(100) < percent }

// paperHolds is what the chapter says of Holds, condition by condition.
func paperHolds(l []api.Deed, order []int) bool {
	for p, i := range order {
		if i < 0 || i >= len(l) || slices.Contains(order[:p], i) {
			return false
		}
	}
	for i, d := range l {
		if !isKind(d.Kind) || d.Done && !slices.Contains(order, i) {
			return false
		}
		for _, j := range order {
			if !slices.Contains(order, i) && d.To < l[j].From {
				return false
			}
		}
	}
	for p, i := range order {
		for _, j := range order[p+1:] {
			if l[j].To < l[i].From {
				return false
			}
		}
		if l[i].Kind == api.Get && !tags.SameVal(l[i].Val, paperLeft(l, order[:p])) {
			return false
		}
	}
	return true
}

// paperLeft is what the last Put or Delete of these left.
func paperLeft(l []api.Deed, order []int) api.Val {
	for _, i := range slices.Backward(order) {
		switch l[i].Kind {
		case api.Put:
			return api.Val{Has: true, B: l[i].B}
		case api.Delete:
			return api.Val{}
		}
	}
	return api.Val{}
}

// allDone reports whether all deeds that are Done are in order.
func allDone(l []api.Deed, order []int) bool {
	for i, d := range l {
		if d.Done && !slices.Contains(order, i) {
			return false
		}
	}
	return true
}

// paperOrder tries all rows of different indexes in lexicographic order, but none that goes
// on behind the last deed that is Done.
func paperOrder(l []api.Deed, order []int) ([]int, bool) {
	if allDone(l, order) {
		return order, paperHolds(l, order)
	}
	for i := range l {
		if !slices.Contains(order, i) {
			if out, is := paperOrder(l, append(slices.Clone(order), i)); is {
				return out, true
			}
		}
	}
	return nil, false
}

// paperRight looks back from each note.
func paperRight(h []api.Note) bool {
	for i, n := range h {
		id := n.Call.ID
		if n.IsAnswer {
			id = n.Answer.ID
		}
		if n.IsAnswer != paperOpen(h[:i], id) {
			return false
		}
	}
	return true
}

// paperOpen reports whether the last note of that ID is a call.
func paperOpen(h []api.Note, id int) bool {
	for _, n := range slices.Backward(h) {
		if n.IsAnswer && n.Answer.ID == id {
			return false
		}
		if !n.IsAnswer && n.Call.ID == id {
			return true
		}
	}
	return false
}

// paperDeeds is what the chapter says of Deeds of a history that is right.
func paperDeeds(key string, h []api.Note) []api.Deed {
	var out []api.Deed
	for i, n := range h {
		if n.IsAnswer || n.Call.Key != key || !isKind(n.Call.Kind) {
			continue
		}
		d := api.Deed{Kind: n.Call.Kind, B: n.Call.B, From: i, To: len(h)}
		e := api.ErrTime
		j := slices.IndexFunc(h[i:], func(a api.Note) bool { return a.IsAnswer && a.Answer.ID == n.Call.ID })
		if j >= 0 {
			e = h[i+j].Answer.E
		}
		if e == api.OK {
			d.To, d.Done = i+j, true
		}
		if e == api.OK && d.Kind == api.Get {
			d.Val = h[i+j].Answer.Val
		}
		if e == api.OK || d.Kind != api.Get && (e == api.ErrTime || e == api.ErrBusy) {
			out = append(out, d)
		}
	}
	return out
}

// text is what a failing test tells of deeds.
func text(l []api.Deed) string {
	var out []byte
	for i, d := range l {
		out = append(out, "\n\t"+strconv.Itoa(i)+": kind "+strconv.Itoa(d.Kind)+" "+strconv.Quote(string(d.B))...)
		out = append(out, " from "+strconv.Itoa(d.From)+" to "+strconv.Itoa(d.To)+" done "+strconv.FormatBool(d.Done)...)
		out = append(out, " val "+strconv.FormatBool(d.Val.Has)+" "+strconv.Quote(string(d.Val.B))...)
	}
	return string(out)
}

// The dice of the samples fall on all sides.
func TestDice(t *testing.T) {
	met := map[int]int{}
	d := diceOf(1)
	for range 6000 {
		met[d.below(6)]++
	}
	for i := range 6 {
		if met[i] < 800 {
			t.Errorf("%d fell %d times", i, met[i])
		}
	}
}
