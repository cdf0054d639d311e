package quorum_test

import (
	"math"
	"math/rand/v2"
	"slices"
	"testing"

	"icehouse/api"
	"icehouse/quorum"
	"icehouse/ring"
)

func ringOf(each, keep int, nodes ...int) api.Ring {
	return api.Ring{Nodes: nodes, Each: each, Keep: keep}
}

// wrongs: no rings.
func wrongs() map[string]api.Ring {
	return map[string]api.Ring{
		"nothing":              {},
		"no nodes":             ringOf(1, 1),
		"no nodes and no Keep": ringOf(1, 0),
		"65 nodes":             ringOf(1, 1, row(65, 0, 1)...),
		"a decreasing pair":    ringOf(1, 1, 2, 1, 3),
		"an equal pair":        ringOf(1, 1, 1, 1),
		"a negative node":      ringOf(1, 1, -1, 1),
		"a node above MaxID":   ringOf(1, 1, 1, api.MaxID+1),
		"Each 0":               ringOf(0, 1, 1, 2),
		"Each 65":              ringOf(65, 1, 1, 2),
		"a negative Each":      ringOf(-1, 1, 1, 2),
		"Keep 0":               ringOf(1, 0, 1, 2),
		"a negative Keep":      ringOf(1, math.MinInt, 1, 2),
		"Keep above the nodes": ringOf(1, 3, 1, 2),
	}
}

func TestWrongRings(t *testing.T) {
	for name, r := range wrongs() {
		for _, l := range [][]int{nil, {1}, {1, 2, 3}, r.Nodes, nodes()} {
			if is, e := quorum.Covers(r, l...); is || e != api.ErrArg {
				t.Errorf("%s: Covers with %v is %v, error %d", name, l, is, e)
			}
			if lost, e := quorum.Lost(r, l...); len(lost) != 0 || e != api.ErrArg {
				t.Errorf("%s: Lost with %v is %v, error %d", name, l, lost, e)
			}
		}
	}
}

// The lists of this ring are, point by point, 4 9, 9 1, 9 1, 1 4, 1 4 and 4 9: of two
// nodes two are needed.
func TestKnownRing(t *testing.T) {
	r := ringOf(2, 2, 1, 4, 9)
	for _, c := range []struct{ dead, want []int }{
		{nil, nil}, {[]int{1}, []int{1, 2, 3, 4}}, {[]int{4}, []int{0, 3, 4, 5}}, {[]int{9}, []int{0, 1, 2, 5}},
		{[]int{1, 4}, row(6, 0, 1)}, {[]int{9, 1, 4}, row(6, 0, 1)}, {[]int{9, 9, 7}, []int{0, 1, 2, 5}},
		{[]int{0, 2, -1, api.MaxID, math.MaxInt}, nil},
	} {
		if l, e := quorum.Lost(r, c.dead...); !slices.Equal(l, c.want) || e != api.OK {
			t.Errorf("Lost with %v is %v, not %v, error %d", c.dead, l, c.want, e)
		}
	}
	for _, c := range []struct {
		got  []int
		want bool
	}{
		{[]int{1, 4, 9}, true}, {[]int{9, 4, 1, 1}, true}, {[]int{3, 9, 4, 1, -5}, true}, {nil, false},
		{[]int{1, 4}, false}, {[]int{1, 9}, false}, {[]int{4, 9, 9}, false}, {[]int{5, 6, 7}, false},
	} {
		if is, e := quorum.Covers(r, c.got...); is != c.want || e != api.OK {
			t.Errorf("Covers with %v is %v, error %d", c.got, is, e)
		}
	}
}

// With Keep 1 all nodes are needed; with all three kept two are enough, of four three.
func TestKnownNumbers(t *testing.T) {
	for _, c := range []struct{ n, keep, most int }{{1, 1, 0}, {2, 1, 0}, {2, 2, 0}, {3, 1, 0}, {3, 3, 1}, {4, 4, 1}, {5, 5, 2}, {64, 64, 31}, {63, 63, 31}} {
		r := ringOf(4, c.keep, row(c.n, 10, 3)...)
		for dead := range c.n + 1 {
			l, e := quorum.Lost(r, r.Nodes[:dead]...)
			if e != api.OK || len(l) > 0 != (dead > c.most) {
				t.Errorf("%d nodes, Keep %d, %d of them dead: Lost is %v, error %d", c.n, c.keep, dead, l, e)
			}
			is, e := quorum.Covers(r, r.Nodes[dead:]...)
			if e != api.OK || is != (dead <= c.most) {
				t.Errorf("%d nodes, Keep %d, %d of them dead: Covers is %v, error %d", c.n, c.keep, dead, is, e)
			}
		}
	}
}

// lost: by the words of the chapter, from the lists of the ring.
func lost(t *testing.T, r api.Ring, got []int) []int {
	t.Helper()
	lists, e := ring.Lists(r)
	if e != api.OK {
		t.Fatalf("Lists of %v: error %d", r, e)
	}
	var out []int
	for i, list := range lists {
		if !majority(list, got) {
			out = append(out, i)
		}
	}
	return out
}

// agree holds both calls, with those nodes of r that live and others among them,
// against what they should answer.
func agree(t *testing.T, r api.Ring, live, dead []int) {
	t.Helper()
	want := lost(t, r, live)
	for _, l := range [][]int{live, slices.Concat(live, nodes()[3:], live), slices.Concat([]int{api.MaxID + 1}, live)} {
		if is, e := quorum.Covers(r, l...); is != (len(want) == 0) || e != api.OK {
			t.Errorf("%v: Covers with %v is %v, error %d", r, l, is, e)
		}
	}
	for _, l := range [][]int{dead, slices.Concat(dead, nodes()[3:], dead), slices.Concat([]int{api.MaxID + 1}, dead)} {
		if got, e := quorum.Lost(r, l...); !slices.Equal(got, want) || e != api.OK {
			t.Errorf("%v: Lost with %v is %v, not %v, error %d", r, l, got, want, e)
		}
	}
}

// All sets of the nodes of small rings.
func TestSmallRings(t *testing.T) {
	for n := 1; n <= 6; n++ {
		for keep := 1; keep <= n; keep++ {
			for _, each := range []int{1, 3} {
				r := ringOf(each, keep, row(n, 0, 7)...)
				for bits := range 1 << n {
					agree(t, r, chosen(r.Nodes, bits), chosen(r.Nodes, ^bits))
				}
			}
		}
	}
}

// Some sets, in any order, of the nodes of great rings.
func TestGreatRings(t *testing.T) {
	luck := rand.New(rand.NewPCG(10, 1))
	for _, r := range []api.Ring{
		ringOf(5, 7, row(20, 100, 1000)...), ringOf(64, 5, row(64, 0, 1)...), ringOf(2, 63, row(63, 0, 7)...),
		ringOf(1, 2, row(64, 100, 1)...), ringOf(64, 64, row(64, api.MaxID-63, 1)...), ringOf(16, 3, row(40, 3, 2)...),
	} {
		for range 3 {
			l := slices.Clone(r.Nodes)
			luck.Shuffle(len(l), func(i, j int) { l[i], l[j] = l[j], l[i] })
			cut := luck.IntN(len(l) + 1)
			agree(t, r, l[:cut], l[cut:])
		}
		for cut := range 3 {
			agree(t, r, r.Nodes[cut:], r.Nodes[:cut])
		}
	}
}

// A ring is covered without a node exactly if nothing is lost with it, and what is lost
// stays lost with more of them.
func TestMoreDeadNodesLoseMore(t *testing.T) {
	r := ringOf(4, 3, row(9, 1, 2)...)
	var before []int
	for n := range len(r.Nodes) + 1 {
		now, e := quorum.Lost(r, r.Nodes[:n]...)
		is, _ := quorum.Covers(r, r.Nodes[n:]...)
		if e != api.OK || is != (len(now) == 0) || !slices.Equal(common(before, now), before) || !slices.IsSorted(now) {
			t.Errorf("%d nodes dead: Lost is %v, after %v, covered %v", n, now, before, is)
		}
		before = now
	}
	if !slices.Equal(before, row(36, 0, 1)) {
		t.Errorf("without any nodes %v are lost", before)
	}
}

// Very many nodes that are not of the ring are answered too.
func TestManyNodesOfNoRing(t *testing.T) {
	r := ringOf(64, 64, row(64, 0, 1)...)
	many := row(1<<19, 64, 1)
	if is, e := quorum.Covers(r, many...); is || e != api.OK {
		t.Errorf("Covers is %v, error %d", is, e)
	}
	if is, e := quorum.Covers(r, slices.Concat(many, row(33, 0, 1))...); !is || e != api.OK {
		t.Errorf("Covers is %v, error %d", is, e)
	}
	if l, e := quorum.Lost(r, many...); len(l) != 0 || e != api.OK {
		t.Errorf("%d are lost, error %d", len(l), e)
	}
	if l, e := quorum.Lost(r, slices.Concat(many, row(32, 0, 1))...); len(l) != 64*64 || e != api.OK {
		t.Errorf("%d are lost, error %d", len(l), e)
	}
}
