package msgs_test

import (
	"math"
	"slices"
	"testing"

	"icehouse/api"
	"icehouse/msgs"
)

func TestHas(t *testing.T) {
	for _, kind := range append(allKinds(), noKinds()...) {
		n, flag, e, l, r := msgs.Has(kind)
		got := []bool{n, flag, e, l, r}
		want := []bool{has(kind, "N"), has(kind, "F"), has(kind, "E"), has(kind, "L"), has(kind, "R")}
		if !slices.Equal(got, want) {
			t.Errorf("Has(%d) is %v, not %v", kind, got, want)
		}
	}
	for kind := -1000; kind <= 1000; kind++ {
		if n, flag, e, l, r := msgs.Has(kind); (kind < 1 || kind > kindCount) && (n || flag || e || l || r) {
			t.Errorf("Has(%d)", kind)
		}
	}
}

func TestCheck(t *testing.T) {
	for i, m := range rightMsgs() {
		if e := msgs.Check(m); e != api.OK {
			t.Errorf("message %d of kind %d: error %d", i, m.Kind, e)
		}
	}
	for _, c := range wrongMsgs() {
		if e := msgs.Check(c.m); e != api.ErrArg {
			t.Errorf("kind %d, %s: error %d", c.m.Kind, c.name, e)
		}
	}
}

func TestCheckOfTheZeroMessage(t *testing.T) {
	if e := msgs.Check(api.Msg{}); e != api.ErrArg {
		t.Errorf("error %d", e)
	}
}

// One field at a time is put into a message that has no other one.
func TestCheckEachField(t *testing.T) {
	for _, kind := range allKinds() {
		for _, letter := range []string{"N", "F", "E", "L", "R"} {
			m := usual(kind)
			switch letter {
			case "N":
				m.N = 3
			case "F":
				m.Flag = true
			case "E":
				m.E = entry("j", tag(2, 2, 2), val("w"))
			case "L":
				m.L = []api.Entry{entry("j", tag(2, 2, 2), val("w"))}
			case "R":
				m.R = ringOf(1, 1, 4)
			}
			if e := msgs.Check(m); (e == api.OK) != has(kind, letter) || e != api.OK && e != api.ErrArg {
				t.Errorf("kind %d with %s: error %d", kind, letter, e)
			}
		}
	}
}

// The numbers at the edges of their ranges, for a kind that has N and for one that has
// none.
func TestCheckRanges(t *testing.T) {
	for _, c := range []struct {
		name string
		most int
		at   func(m *api.Msg) *int
	}{
		{"From", api.MaxID, func(m *api.Msg) *int { return &m.From }},
		{"To", api.MaxID, func(m *api.Msg) *int { return &m.To }},
		{"Epoch", api.MaxSeq, func(m *api.Msg) *int { return &m.Epoch }},
		{"Op", api.MaxSeq, func(m *api.Msg) *int { return &m.Op }},
		{"N", api.MaxSeq, func(m *api.Msg) *int { return &m.N }},
	} {
		for _, n := range []int{math.MinInt, -c.most - 1, -c.most, -1, 0, 1, c.most - 1, c.most, c.most + 1, 2 * c.most, math.MaxInt} {
			want := api.OK
			if n < 0 || n > c.most {
				want = api.ErrArg
			}
			for _, kind := range []int{api.Other, api.Told, api.Install} {
				if e := msgs.Check(changed(kind, func(m *api.Msg) { *c.at(m) = n })); e != want {
					t.Errorf("kind %d, %s %d: error %d", kind, c.name, n, e)
				}
			}
			if c.name == "N" && n != 0 {
				want = api.ErrArg
			}
			if e := msgs.Check(changed(api.Beat, func(m *api.Msg) { *c.at(m) = n })); e != want {
				t.Errorf("Beat, %s %d: error %d", c.name, n, e)
			}
		}
	}
}

// A nil slice and an empty one are the same.
func TestCheckOfEmptySlices(t *testing.T) {
	for _, kind := range allKinds() {
		for _, m := range []api.Msg{least(kind), usual(kind)} {
			if !has(kind, "E") {
				m.E.Val.B = []byte{}
			}
			if len(m.L) == 0 {
				m.L = make([]api.Entry, 0, 3)
			}
			if !has(kind, "R") {
				m.R.Nodes = []int{}
			}
			if e := msgs.Check(m); e != api.OK {
				t.Errorf("kind %d: error %d", kind, e)
			}
			if b, e := msgs.Bytes(m); e != api.OK || string(b) != string(written(m)) {
				t.Errorf("kind %d: %x, error %d", kind, b, e)
			}
		}
	}
}

// Of whom a message is, and whether its entries have something in common, is all one.
func TestCheckDoesNotAskMore(t *testing.T) {
	k, j := entry("k", tag(1, 0, 0), val("a")), entry("j", tag(0, 0, 0), api.Val{})
	for i, m := range []api.Msg{
		{Kind: api.Beat, From: 9, To: 9},
		{Kind: api.Flushed, From: 5, To: 6, E: k},
		{Kind: api.News, From: 4, Epoch: 0, R: ringOf(1, 1, 0, 1)},
		{Kind: api.Keep, E: j},
		{Kind: api.Install, L: []api.Entry{k, j, k, k}},
		{Kind: api.Dump, Flag: true},
	} {
		if e := msgs.Check(m); e != api.OK {
			t.Errorf("message %d: error %d", i, e)
		}
	}
}
