package ring_test

import (
	"encoding/binary"
	"hash/fnv"
	"math"
	"slices"
	"strings"
	"testing"

	"icehouse/api"
	"icehouse/ring"
)

// stirred: by the words of layer 4.
func stirred(h uint64) uint64 {
	h = (h ^ h>>33) * 0xff51afd7ed558ccd
	h = (h ^ h>>33) * 0xc4ceb9fe1a85ec53
	return h ^ h>>33
}

func keyOf(s string) uint64 {
	h := fnv.New64a()
	h.Write([]byte(s))
	return stirred(h.Sum64())
}

func pointOf(node, k int) api.Point {
	b := binary.BigEndian.AppendUint64(nil, uint64(node))
	b = binary.BigEndian.AppendUint64(b, uint64(k))
	return api.Point{At: keyOf(string(b)), Node: node}
}

func ringOf(each, keep int, nodes ...int) api.Ring {
	return api.Ring{Nodes: nodes, Each: each, Keep: keep}
}

// row: n numbers, the first one and each other one so much above the one before.
func row(n, first, step int) []int {
	var out []int
	for i := range n {
		out = append(out, first+i*step)
	}
	return out
}

// rings: at the edges of what a ring may be, and between them.
func rings() []api.Ring {
	return []api.Ring{
		ringOf(1, 1, 0), ringOf(1, 1, 7), ringOf(1, 1, api.MaxID), ringOf(64, 1, 1),
		ringOf(1, 1, 3, 5), ringOf(1, 2, 3, 5), ringOf(2, 1, 0, api.MaxID), ringOf(64, 2, 0, 1),
		ringOf(1, 1, 1, 4, 9), ringOf(2, 2, 1, 4, 9), ringOf(8, 3, 1, 4, 9), ringOf(16, 3, 2, 3, 4, 5, 6),
		ringOf(3, 3, 0, 1, 2, api.MaxID), ringOf(5, 7, row(20, 100, 1000)...),
		ringOf(1, 64, row(64, 100, 1)...), ringOf(1, 1, row(64, 0, 1)...), ringOf(2, 63, row(63, 0, 7)...),
		ringOf(64, 5, row(64, 0, 1)...), ringOf(64, 64, row(64, api.MaxID-63, 1)...),
	}
}

// wrongs: no rings.
func wrongs() map[string]api.Ring {
	out := map[string]api.Ring{
		"nothing":                {},
		"no nodes":               ringOf(1, 1),
		"no nodes and no Keep":   ringOf(1, 0),
		"65 nodes":               ringOf(1, 1, row(65, 0, 1)...),
		"128 nodes":              ringOf(1, 1, row(128, 0, 1)...),
		"very many nodes":        ringOf(1, 1, row(1<<17, 0, 1)...),
		"a decreasing first":     ringOf(1, 1, 2, 1, 3),
		"a decreasing last":      ringOf(1, 1, 1, 3, 2),
		"a last that is first":   ringOf(1, 1, 1, 2, 3, 4, 0),
		"an equal pair":          ringOf(1, 1, 1, 1),
		"an equal first":         ringOf(1, 1, 0, 0, 1, 2),
		"an equal middle":        ringOf(1, 1, 0, 1, 1, 2),
		"an equal last":          ringOf(1, 1, 0, 1, 2, 2),
		"an equal other":         ringOf(1, 1, 1, 2, 1),
		"only decreasing":        ringOf(1, 1, 9, 7, 5, 3),
		"a middle above all":     ringOf(1, 1, 0, api.MaxID+1, api.MaxID),
		"a middle below all":     ringOf(1, 1, 0, -1, 1),
		"Keep above the nodes":   ringOf(1, 4, 1, 2, 3),
		"Keep 2 of one":          ringOf(1, 2, 1),
		"Keep 64 of 63":          ringOf(1, 64, row(63, 0, 1)...),
		"64 nodes, one too high": ringOf(1, 1, row(64, api.MaxID-62, 1)...),
	}
	for name, n := range map[string]int{"-1": -1, "the least": math.MinInt, "-MaxID": -api.MaxID} {
		out["a first node "+name] = ringOf(1, 1, n, 1, 2)
		out["a node "+name] = ringOf(1, 1, n)
		out["Each "+name] = ringOf(n, 1, 1, 2)
		out["Keep "+name] = ringOf(1, n, 1, 2)
	}
	for name, n := range map[string]int{"MaxID + 1": api.MaxID + 1, "the greatest": math.MaxInt, "of 33 bits": 1 << 32} {
		out["a last node "+name] = ringOf(1, 1, 1, 2, n)
		out["a node "+name] = ringOf(1, 1, n)
		out["Each "+name] = ringOf(n, 1, 1, 2)
		out["Keep "+name] = ringOf(1, n, 1, 2)
	}
	for name, n := range map[string]int{"0": 0, "65": 65, "128": 128} {
		out["Each "+name] = ringOf(n, 1, 1, 2)
		out["Keep "+name] = ringOf(1, n, 1, 2)
		out["Keep "+name+" of 64"] = ringOf(1, n, row(64, 0, 1)...)
	}
	return out
}

func TestCheck(t *testing.T) {
	for _, r := range rings() {
		if e := ring.Check(r); e != api.OK {
			t.Errorf("Check(%v) = %d", r, e)
		}
	}
	for n := 1; n <= api.MaxMembers; n++ {
		for _, each := range []int{1, 2, api.MaxEach - 1, api.MaxEach} {
			for keep := 1; keep <= n; keep++ {
				if e := ring.Check(ringOf(each, keep, row(n, 3, 5)...)); e != api.OK {
					t.Errorf("Check of %d nodes, Each %d, Keep %d is %d", n, each, keep, e)
				}
			}
			if e := ring.Check(ringOf(each, n+1, row(n, 3, 5)...)); e != api.ErrArg {
				t.Errorf("Check of %d nodes, Keep %d is %d", n, n+1, e)
			}
		}
	}
}

// Each place at which nodes may fail to increase is found.
func TestCheckOfEachPlace(t *testing.T) {
	for n := 2; n <= api.MaxMembers; n++ {
		for i := range n - 1 {
			for _, less := range []int{0, 1, 2} {
				r := ringOf(1, 1, row(n, 10, 4)...)
				r.Nodes[i+1] = r.Nodes[i] - less
				if e := ring.Check(r); e != api.ErrArg {
					t.Errorf("Check(%v) = %d", r, e)
				}
			}
		}
	}
}

func TestWrongRings(t *testing.T) {
	for name, r := range wrongs() {
		if e := ring.Check(r); e != api.ErrArg {
			t.Errorf("%s: Check is %d", name, e)
		}
		if l, e := ring.Points(r); len(l) != 0 || e != api.ErrArg {
			t.Errorf("%s: Points are %v, error %d", name, l, e)
		}
		if l, e := ring.Lists(r); len(l) != 0 || e != api.ErrArg {
			t.Errorf("%s: Lists are %v, error %d", name, l, e)
		}
		for _, h := range []uint64{0, 5, math.MaxUint64} {
			if l, e := ring.At(r, h); len(l) != 0 || e != api.ErrArg {
				t.Errorf("%s: At is %v, error %d", name, l, e)
			}
			if i, e := ring.Segment(r, h); i != 0 || e != api.ErrArg {
				t.Errorf("%s: Segment is %d, error %d", name, i, e)
			}
		}
		for _, key := range []string{"", "key"} {
			if l, e := ring.Keepers(r, key); len(l) != 0 || e != api.ErrArg {
				t.Errorf("%s: Keepers are %v, error %d", name, l, e)
			}
		}
	}
}

// pointsOf: the points of a ring, in the order in which they were asked for.
func pointsOf(t *testing.T, r api.Ring) []api.Point {
	t.Helper()
	l, e := ring.Points(r)
	if e != api.OK {
		t.Fatalf("Points of %v: error %d", r, e)
	}
	return l
}

func TestPoints(t *testing.T) {
	for _, r := range rings() {
		l := pointsOf(t, r)
		for i := range len(l) - 1 {
			if a, b := l[i], l[i+1]; a.At > b.At || a.At == b.At && a.Node >= b.Node {
				t.Errorf("%v: %v comes before %v", r, a, b)
			}
		}
		here := map[api.Point]int{}
		for _, p := range l {
			here[p]++
		}
		for _, node := range r.Nodes {
			for k := range r.Each {
				if p := pointOf(node, k); here[p] != 1 {
					t.Errorf("%v: %v is there %d times", r, p, here[p])
				}
			}
		}
		if len(l) != len(r.Nodes)*r.Each {
			t.Errorf("%v has %d points", r, len(l))
		}
	}
}

// Points and keepers that were computed apart from the program.
func TestKnownRing(t *testing.T) {
	r := ringOf(2, 2, 1, 4, 9)
	want := []api.Point{
		{At: 0x48f8c14a2550adba, Node: 4}, {At: 0x5bd3af6e9dfd18f2, Node: 9}, {At: 0x9cff974f06d4c9e7, Node: 9},
		{At: 0xb1da13f90218b3ad, Node: 1}, {At: 0xd1108a8bec2b47fa, Node: 1}, {At: 0xea073cf462ebcf68, Node: 4},
	}
	if l := pointsOf(t, r); !slices.Equal(l, want) {
		t.Errorf("Points are %x, not %x", l, want)
	}
	lists := [][]int{{4, 9}, {9, 1}, {9, 1}, {1, 4}, {1, 4}, {4, 9}}
	if l, e := ring.Lists(r); e != api.OK || !slices.EqualFunc(l, lists, slices.Equal) {
		t.Errorf("Lists are %v, error %d", l, e)
	}
	for _, c := range []struct {
		h    uint64
		i    int
		want []int
	}{
		{0, 0, lists[0]}, {0x48f8c14a2550adb9, 0, lists[0]}, {0x48f8c14a2550adba, 0, lists[0]}, {0x48f8c14a2550adbb, 1, lists[1]},
		{0x9cff974f06d4c9e6, 2, lists[2]}, {0x9cff974f06d4c9e7, 2, lists[2]}, {0x9cff974f06d4c9e8, 3, lists[3]},
		{0xd1108a8bec2b47fa, 4, lists[4]}, {0xd1108a8bec2b47fb, 5, lists[5]}, {0xea073cf462ebcf68, 5, lists[5]},
		{0xea073cf462ebcf69, 0, lists[0]}, {1 << 63, 2, lists[2]}, {math.MaxUint64, 0, lists[0]},
	} {
		if i, e := ring.Segment(r, c.h); i != c.i || e != api.OK {
			t.Errorf("Segment of %x is %d, error %d", c.h, i, e)
		}
		if l, e := ring.At(r, c.h); !slices.Equal(l, c.want) || e != api.OK {
			t.Errorf("At of %x is %v, error %d", c.h, l, e)
		}
	}
}

func TestKnownKeepers(t *testing.T) {
	three, four, all := ringOf(2, 2, 1, 4, 9), ringOf(3, 3, 0, 1, 2, api.MaxID), ringOf(64, 5, row(64, 0, 1)...)
	for _, c := range []struct {
		r    api.Ring
		key  string
		want []int
	}{
		{three, "", []int{4, 9}}, {three, "a", []int{9, 1}}, {three, "ab", []int{4, 9}}, {three, "foobar", []int{4, 9}},
		{three, "key", []int{1, 4}}, {three, "\xff", []int{4, 9}},
		{four, "", []int{0, 1, api.MaxID}}, {four, "a", []int{0, 2, 1}}, {four, "ab", []int{api.MaxID, 2, 0}},
		{four, "foobar", []int{1, api.MaxID, 0}}, {four, "key", []int{1, api.MaxID, 2}},
		{all, "a", []int{21, 39, 3, 30, 1}}, {all, "key", []int{1, 36, 24, 47, 41}}, {all, "foobar", []int{61, 41, 34, 8, 33}},
	} {
		if l, e := ring.Keepers(c.r, c.key); !slices.Equal(l, c.want) || e != api.OK {
			t.Errorf("Keepers of %q are %v, not %v, error %d", c.key, l, c.want, e)
		}
	}
}

// paper is a ring with the words at which each node has its points.
type paper struct {
	r     api.Ring
	stand map[int][]uint64
}

func paperOf(r api.Ring) paper {
	p := paper{r, map[int][]uint64{}}
	for _, node := range r.Nodes {
		for k := range r.Each {
			p.stand[node] = append(p.stand[node], pointOf(node, k).At)
		}
	}
	return p
}

// keepers: the nodes to which the way from h on is the shortest.
func (p paper) keepers(h uint64) []int {
	ways := map[int]uint64{}
	for node, l := range p.stand {
		ways[node] = math.MaxUint64
		for _, at := range l {
			ways[node] = min(ways[node], at-h)
		}
	}
	nodes := slices.Clone(p.r.Nodes)
	slices.SortStableFunc(nodes, func(a, b int) int {
		switch {
		case ways[a] < ways[b]:
			return -1
		case ways[a] > ways[b]:
			return 1
		}
		return 0
	})
	return nodes[:p.r.Keep]
}

// before: how many points stand before h, or none if all do.
func (p paper) before(h uint64) int {
	n := 0
	for _, l := range p.stand {
		for _, at := range l {
			if at < h {
				n++
			}
		}
	}
	return n % (len(p.r.Nodes) * p.r.Each)
}

// words: the first and the last ones, those of points, and those beside them.
func words(all []api.Point) []uint64 {
	out := []uint64{0, 1, math.MaxInt64, 1 << 63, math.MaxUint64 - 1, math.MaxUint64}
	some := slices.Concat(all[:min(9, len(all))], all[len(all)-1:])
	for i := 0; i < len(all); i += max(1, len(all)/100) {
		some = append(some, all[i])
	}
	for _, p := range some {
		out = append(out, p.At-1, p.At, p.At+1)
	}
	return out
}

func TestAtAndSegment(t *testing.T) {
	for _, r := range rings() {
		p := paperOf(r)
		for _, h := range words(pointsOf(t, r)) {
			if l, e := ring.At(r, h); !slices.Equal(l, p.keepers(h)) || e != api.OK {
				t.Errorf("%v: At of %x is %v, not %v, error %d", r, h, l, p.keepers(h), e)
			}
			if i, e := ring.Segment(r, h); i != p.before(h) || e != api.OK {
				t.Errorf("%v: Segment of %x is %d, not %d, error %d", r, h, i, p.before(h), e)
			}
		}
	}
}

func TestLists(t *testing.T) {
	for _, r := range rings() {
		p, all := paperOf(r), pointsOf(t, r)
		l, e := ring.Lists(r)
		if e != api.OK || len(l) != len(all) {
			t.Fatalf("%v has %d lists, error %d", r, len(l), e)
		}
		for i, list := range l {
			if want := p.keepers(all[i].At); !slices.Equal(list, want) || list[0] != all[i].Node {
				t.Errorf("%v: list %d is %v, not %v", r, i, list, want)
			}
		}
	}
}

// keys: of all lengths, and of any bytes.
func keys() []string {
	out := []string{"", "a", "b", "key", "\x00", "\xff", "\xff\xfe", "é世界", strings.Repeat("k", api.MaxKey), strings.Repeat("x", 1<<16)}
	for i := range 40 {
		out = append(out, "key "+string(rune('a'+i)))
	}
	return out
}

func TestKeepers(t *testing.T) {
	for _, r := range rings() {
		p := paperOf(r)
		for _, key := range keys() {
			if l, e := ring.Keepers(r, key); !slices.Equal(l, p.keepers(keyOf(key))) || e != api.OK {
				t.Errorf("%v: Keepers of %d bytes are %v, not %v, error %d", r, len(key), l, p.keepers(keyOf(key)), e)
			}
		}
	}
}

func TestKeepersOfSmallRings(t *testing.T) {
	for _, key := range keys() {
		if l, e := ring.Keepers(ringOf(9, 1, 5), key); !slices.Equal(l, []int{5}) || e != api.OK {
			t.Errorf("of one node %v keep %q, error %d", l, key, e)
		}
		l, e := ring.Keepers(ringOf(4, 3, 2, 6, 8), key)
		if slices.Sort(l); !slices.Equal(l, []int{2, 6, 8}) || e != api.OK {
			t.Errorf("of three nodes with Keep 3 %v keep %q, error %d", l, key, e)
		}
	}
}
