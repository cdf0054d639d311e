package ring_test

import (
	"math"
	"slices"
	"testing"

	"icehouse/api"
	"icehouse/ring"
)

// alike: by comparing each field here.
func alike(a, b api.Ring) bool {
	if len(a.Nodes) != len(b.Nodes) || a.Each != b.Each || a.Keep != b.Keep {
		return false
	}
	for i := range a.Nodes {
		if a.Nodes[i] != b.Nodes[i] {
			return false
		}
	}
	return true
}

// change: a ring, a node, and what With or Without makes of both.
type change struct {
	name string
	r    api.Ring
	node int
	want api.Ring
	e    api.Errno
}

func runChanges(t *testing.T, what string, do func(r api.Ring, node int) (api.Ring, api.Errno), l []change) {
	t.Helper()
	for _, c := range l {
		if got, e := do(c.r, c.node); !alike(got, c.want) || e != c.e {
			t.Errorf("%s, %s: %v, error %d; not %v, error %d", what, c.name, got, e, c.want, c.e)
		}
	}
}

func TestWith(t *testing.T) {
	r := ringOf(8, 2, 1, 4, 9)
	most := row(api.MaxMembers, 0, 2)
	runChanges(t, "With", ring.With, []change{
		{"a first node", r, 0, ringOf(8, 2, 0, 1, 4, 9), api.OK},
		{"a second node", r, 2, ringOf(8, 2, 1, 2, 4, 9), api.OK},
		{"a third node", r, 5, ringOf(8, 2, 1, 4, 5, 9), api.OK},
		{"beside the last one", r, 8, ringOf(8, 2, 1, 4, 8, 9), api.OK},
		{"a last node", r, 10, ringOf(8, 2, 1, 4, 9, 10), api.OK},
		{"MaxID", r, api.MaxID, ringOf(8, 2, 1, 4, 9, api.MaxID), api.OK},
		{"to none", ringOf(1, 1), 7, ringOf(1, 1, 7), api.OK},
		{"0 to none", ringOf(64, 1), 0, ringOf(64, 1, 0), api.OK},
		{"Keep as many as it has then", ringOf(1, 4, 1, 2, 3), 6, ringOf(1, 4, 1, 2, 3, 6), api.OK},
		{"the 64th node", ringOf(1, 64, most[:63]...), 126, ringOf(1, 64, most...), api.OK},
		{"the 64th node first", ringOf(1, 2, most[1:]...), 0, ringOf(1, 2, most...), api.OK},
	})
}

func TestWithWrongNodes(t *testing.T) {
	r := ringOf(8, 2, 1, 4, 9)
	var wrong []change
	for _, node := range []int{1, 4, 9, -1, -4, -api.MaxID, math.MinInt, api.MaxID + 1, 1 << 32, 1<<32 + 5, math.MaxInt} {
		wrong = append(wrong, change{"a wrong node", r, node, api.Ring{}, api.ErrArg})
	}
	for _, node := range []int{0, api.MaxID} {
		wrong = append(wrong, change{"a node that is there", ringOf(1, 1, 0, api.MaxID), node, api.Ring{}, api.ErrArg})
	}
	for _, node := range row(64, 0, 1) {
		wrong = append(wrong, change{"one of many that are there", ringOf(1, 1, row(63, 0, 1)...), node % 63, api.Ring{}, api.ErrArg})
	}
	runChanges(t, "With", ring.With, wrong)
}

func TestWithOfWrongRings(t *testing.T) {
	most := row(api.MaxMembers, 0, 2)
	runChanges(t, "With", ring.With, []change{
		{"the 65th node", ringOf(1, 1, most...), 5, api.Ring{}, api.ErrArg},
		{"the 65th node at the end", ringOf(1, 1, most...), 200, api.Ring{}, api.ErrArg},
		{"very many nodes", ringOf(1, 1, row(1<<17, 0, 2)...), 7, api.Ring{}, api.ErrArg},
		{"Keep still above the nodes", ringOf(1, 3, 1), 2, api.Ring{}, api.ErrArg},
		{"Keep 2 of none", ringOf(1, 2), 2, api.Ring{}, api.ErrArg},
		{"Keep 0", ringOf(1, 0, 1), 2, api.Ring{}, api.ErrArg},
		{"Keep 0 of none", ringOf(1, 0), 2, api.Ring{}, api.ErrArg},
		{"Each 0", ringOf(0, 1, 1), 2, api.Ring{}, api.ErrArg},
		{"Each 65", ringOf(65, 1, 1), 2, api.Ring{}, api.ErrArg},
		{"nothing", api.Ring{}, 2, api.Ring{}, api.ErrArg},
		{"a first node below 0", ringOf(1, 1, -1, 1), 2, api.Ring{}, api.ErrArg},
		{"a last node above MaxID", ringOf(1, 1, 1, api.MaxID+1), 2, api.Ring{}, api.ErrArg},
		{"nodes in another order", ringOf(1, 1, 9, 4, 1), 2, api.Ring{}, api.ErrArg},
		{"a node twice", ringOf(1, 1, 1, 1), 2, api.Ring{}, api.ErrArg},
		{"a node that is there, in another order", ringOf(1, 1, 9, 4, 1), 9, api.Ring{}, api.ErrArg},
	})
	for name, r := range wrongs() {
		if r.Each == 1 && r.Keep == len(r.Nodes)+1 {
			continue // one node more may make these right
		}
		for _, node := range []int{0, 1, 5, 63, 1000, api.MaxID} {
			if got, e := ring.With(r, node); !alike(got, api.Ring{}) || e != api.ErrArg {
				t.Errorf("With(%d), %s: %v, error %d", node, name, got, e)
			}
		}
	}
}

func TestWithout(t *testing.T) {
	r := ringOf(8, 2, 1, 4, 9)
	runChanges(t, "Without", ring.Without, []change{
		{"the first node", r, 1, ringOf(8, 2, 4, 9), api.OK},
		{"the second node", r, 4, ringOf(8, 2, 1, 9), api.OK},
		{"the last node", r, 9, ringOf(8, 2, 1, 4), api.OK},
		{"0", ringOf(64, 1, 0, api.MaxID), 0, ringOf(64, 1, api.MaxID), api.OK},
		{"MaxID", ringOf(64, 1, 0, api.MaxID), api.MaxID, ringOf(64, 1, 0), api.OK},
		{"the only node", ringOf(1, 1, 5), 5, api.Ring{}, api.ErrArg},
		{"as many as Keep", ringOf(1, 3, 5, 6, 7), 5, api.Ring{}, api.ErrArg},
	})
	var missing []change
	for _, node := range []int{0, 2, 5, 8, 10, -1, -4, math.MinInt, api.MaxID, api.MaxID + 1, 1<<32 + 4, math.MaxInt} {
		missing = append(missing, change{"a node that is not there", r, node, api.Ring{}, api.ErrNone})
	}
	runChanges(t, "Without", ring.Without, missing)
}

// The ring that a node is taken from needn't be one.
func TestWithoutOfWrongRings(t *testing.T) {
	runChanges(t, "Without", ring.Without, []change{
		{"nothing", api.Ring{}, 0, api.Ring{}, api.ErrNone},
		{"a missing one of none", ringOf(1, 1), 5, api.Ring{}, api.ErrNone},
		{"a missing one, and Each 0", ringOf(0, 1, 1, 2), 5, api.Ring{}, api.ErrNone},
		{"a missing one, and Keep 3", ringOf(1, 3, 1, 2), 5, api.Ring{}, api.ErrNone},
		{"a missing one of others in another order", ringOf(1, 1, 9, 4, 1), 5, api.Ring{}, api.ErrNone},
		{"a missing one of others out of bounds", ringOf(1, 1, -1, math.MaxInt), 5, api.Ring{}, api.ErrNone},
		{"the 65th node", ringOf(1, 1, row(65, 0, 1)...), 64, ringOf(1, 1, row(64, 0, 1)...), api.OK},
		{"one of 65 nodes", ringOf(1, 1, row(65, 0, 1)...), 0, ringOf(1, 1, row(64, 1, 1)...), api.OK},
		{"one of 66 nodes", ringOf(1, 1, row(66, 0, 1)...), 0, api.Ring{}, api.ErrArg},
		{"one of very many", ringOf(1, 1, row(1<<17, 0, 1)...), 1<<17 - 1, api.Ring{}, api.ErrArg},
		{"a first node below 0", ringOf(1, 1, -1, 1), -1, ringOf(1, 1, 1), api.OK},
		{"the least node", ringOf(1, 1, math.MinInt, 1), math.MinInt, ringOf(1, 1, 1), api.OK},
		{"the greatest node", ringOf(1, 1, 1, math.MaxInt), math.MaxInt, ringOf(1, 1, 1), api.OK},
		{"beside a node above MaxID", ringOf(1, 1, 1, api.MaxID+1), 1, api.Ring{}, api.ErrArg},
		{"beside a node below 0", ringOf(1, 1, -1, 1), 1, api.Ring{}, api.ErrArg},
		{"the one that is not in order", ringOf(1, 1, 3, 1, 2), 3, ringOf(1, 1, 1, 2), api.OK},
		{"the last, which is not in order", ringOf(1, 1, 1, 2, 0), 0, ringOf(1, 1, 1, 2), api.OK},
		{"another one", ringOf(1, 1, 3, 1, 2), 2, api.Ring{}, api.ErrArg},
		{"one of two equal ones", ringOf(2, 2, 1, 1, 2), 1, ringOf(2, 2, 1, 2), api.OK},
		{"beside two equal ones", ringOf(2, 2, 1, 1, 2), 2, api.Ring{}, api.ErrArg},
		{"one of three equal ones", ringOf(2, 2, 1, 1, 1, 2), 1, api.Ring{}, api.ErrArg},
		{"the first of two, which is not in order", ringOf(2, 2, 2, 1, 2), 2, ringOf(2, 2, 1, 2), api.OK},
		{"the first of two, of which the other is not in order", ringOf(2, 2, 1, 2, 1), 1, api.Ring{}, api.ErrArg},
		{"Each 0", ringOf(0, 1, 1, 2), 2, api.Ring{}, api.ErrArg},
		{"Each 65", ringOf(65, 1, 1, 2), 2, api.Ring{}, api.ErrArg},
		{"Keep 0", ringOf(1, 0, 1, 2), 2, api.Ring{}, api.ErrArg},
		{"Keep 0 of one", ringOf(1, 0, 1), 1, api.Ring{}, api.ErrArg},
		{"Keep 3 of two", ringOf(1, 3, 1, 2), 2, api.Ring{}, api.ErrArg},
	})
}

// Each node comes and goes, from any place.
func TestThereAndBack(t *testing.T) {
	for _, r := range rings() {
		for i, node := range r.Nodes {
			less := ringOf(r.Each, r.Keep, slices.Delete(slices.Clone(r.Nodes), i, i+1)...)
			got, e := ring.Without(r, node)
			if r.Keep > len(less.Nodes) {
				if !alike(got, api.Ring{}) || e != api.ErrArg {
					t.Errorf("%v without %d is %v, error %d", r, node, got, e)
				}
				less.Keep = r.Keep
			} else if !alike(got, less) || e != api.OK {
				t.Errorf("%v without %d is %v, error %d", r, node, got, e)
			}
			if back, e := ring.With(less, node); !alike(back, r) || e != api.OK {
				t.Errorf("%v with %d is %v, error %d", less, node, back, e)
			}
		}
	}
}

// Adding or removing a node changes the keepers of a word only where it is one of them:
// there it takes its place among the others, and the last of these does not keep the
// word any more.
func TestOnlyItsKeepersChange(t *testing.T) {
	for _, r := range rings() {
		if r.Keep == len(r.Nodes) {
			continue // none of these may be removed
		}
		for i := 0; i < len(r.Nodes); i += max(1, len(r.Nodes)/4) {
			node := r.Nodes[i]
			less, e := ring.Without(r, node)
			if e != api.OK {
				t.Fatalf("%v without %d: error %d", r, node, e)
			}
			kept := 0
			for _, h := range append(words(pointsOf(t, r)), pointOf(node, 0).At) {
				a, _ := ring.At(r, h)
				b, _ := ring.At(less, h)
				at := slices.Index(a, node)
				if at < 0 && !slices.Equal(a, b) {
					t.Errorf("%v: %v keep %x, and without %d %v", r, a, h, node, b)
				}
				if at >= 0 && !slices.Equal(slices.Delete(a, at, at+1), b[:r.Keep-1]) {
					t.Errorf("%v: without %d %v keep %x", r, node, b, h)
				}
				if at >= 0 {
					kept++
				}
			}
			if kept == 0 {
				t.Errorf("%v: %d keeps nothing", r, node)
			}
		}
	}
}

func TestSame(t *testing.T) {
	l := []api.Ring{
		{}, ringOf(1, 0), ringOf(0, 1), ringOf(1, 1), ringOf(0, 0, 0), ringOf(1, 1, 0), ringOf(1, 1, 1), ringOf(1, 2, 1), ringOf(2, 1, 1),
		ringOf(8, 2, 1, 4, 9), ringOf(8, 3, 1, 4, 9), ringOf(9, 2, 1, 4, 9), ringOf(2, 8, 1, 4, 9), ringOf(8, 2, 1, 4), ringOf(8, 2, 4, 9),
		ringOf(8, 2, 0, 4, 9), ringOf(8, 2, 1, 5, 9), ringOf(8, 2, 1, 4, 8), ringOf(8, 2, 1, 4, 9, 10), ringOf(8, 2, 1, 4, 4, 9),
		ringOf(8, 2, 9, 4, 1), ringOf(8, 2, 1, 9, 4), ringOf(8, 2, -1, 4, 9), ringOf(-1, 2, 1), ringOf(1, math.MinInt, 1), ringOf(1, 1, math.MaxInt),
	}
	for i, a := range l {
		for j, b := range l {
			b.Nodes = slices.Clone(b.Nodes)
			if got := ring.Same(a, b); got != (i == j) {
				t.Errorf("Same(%v, %v) = %v", a, b, got)
			}
		}
	}
	for _, r := range rings() {
		if !ring.Same(r, r) || !ring.Same(r, ringOf(r.Each, r.Keep, slices.Clone(r.Nodes)...)) {
			t.Errorf("%v is not the same as itself", r)
		}
	}
	none := api.Ring{Nodes: []int{}, Each: 3, Keep: 2}
	if a := ringOf(3, 2); !ring.Same(a, none) || !ring.Same(none, a) {
		t.Error("no nodes are not the same as none")
	}
}
