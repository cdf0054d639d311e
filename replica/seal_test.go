package replica_test

import (
	"testing"

	"icehouse/api"
	"icehouse/replica"
)

func TestSeal(t *testing.T) {
	a, b, c := put("a", 1, "x"), gone("b", 2), put("c", 3, "")
	n := active(t, placeOf(9, 99, 2, 2), 3, c, a, b)
	m := sealOf(5, 7)
	handles(t, n, m, dumpOf(m, 0, false, a, b), dumpOf(m, 1, true, c))
	stands(t, n, api.Sealed, 3)
	marked(t, n, "a b c", 1)
}

// A Dump has all entries, clean ones and those that were not written among them.
func TestDumpOfAll(t *testing.T) {
	n := active(t, placeOf(9, 99, 2, 3), 1, put("b", 1, "x"))
	handles(t, n, flushedOf(put("b", 1, "x")))
	handles(t, n, fillOf(1, unwritten("a"), 1))
	handles(t, n, fillOf(1, put("c", 4, "four"), 1))
	m := sealOf(2, 0)
	handles(t, n, m, dumpOf(m, 0, true, unwritten("a"), put("b", 1, "x"), put("c", 4, "four")))
	marked(t, n, "A* B C*", 1)
}

// Parts of Chunk entries, the last one with the rest.
func TestDumpInParts(t *testing.T) {
	for size := range 8 {
		for chunk := 1; chunk <= 9; chunk++ {
			var l []api.Entry
			for i := range size {
				l = append(l, put(string(rune('a'+i)), i+1, "v"))
			}
			n := active(t, placeOf(9, 99, 2, chunk), 1, l...)
			m := sealOf(4, 2)
			var want []api.Msg
			for i := 0; i == 0 || i < size; i += chunk {
				end := min(i+chunk, size)
				want = append(want, dumpOf(m, i/chunk, end == size, l[i:end]...))
			}
			handles(t, n, m, want...)
		}
	}
}

// A Seal may have an Op, which its Dump has not.
func TestSealWithAnOp(t *testing.T) {
	n := active(t, placeOf(9, 99, 2, 1), 1, put("a", 1, ""), put("b", 1, ""))
	m := sealOf(2, api.MaxSeq)
	m.Op = api.MaxSeq
	handles(t, n, m, dumpOf(m, 0, false, put("a", 1, "")), dumpOf(m, 1, true, put("b", 1, "")))
}

// A node of no epoch can't be sealed, and does not heed the Seal.
func TestSealOfApart(t *testing.T) {
	n := nodeAt(t, placeOf(9, 99, 2, 2))
	for _, epoch := range []int{0, 1, 9, api.MaxSeq} {
		handles(t, n, sealOf(epoch, api.MaxSeq))
	}
	stands(t, n, api.Apart, 0)
	m := installOf(1, 0, 0, false, put("a", 1, ""))
	handles(t, n, m)
	handles(t, n, sealOf(9, api.MaxSeq))
	stands(t, n, api.Apart, 0)
	m = installOf(1, 0, 1, true)
	handles(t, n, m, readyOf(m))
}

// A Seal of the node's own epoch gets a Dump of a node that goes on.
func TestSealOfTheSameEpoch(t *testing.T) {
	n := active(t, placeOf(9, 99, 2, 2), 3, put("a", 1, ""))
	for _, k := range []int{0, 0, 4} {
		m := sealOf(3, k)
		handles(t, n, m, dumpOf(m, 0, true, put("a", 1, "")))
		stands(t, n, api.Active, 3)
	}
	handles(t, n, sealOf(3, 3))
	m := keepOf(3, put("a", 2, "y"))
	handles(t, n, m, keptOf(m))
	m = sealOf(3, 4)
	handles(t, n, m, dumpOf(m, 0, true, put("a", 2, "y")))
}

func TestSealOfEarlierEpochs(t *testing.T) {
	n := active(t, placeOf(9, 99, 2, 2), 3)
	for _, epoch := range []int{0, 1, 2} {
		handles(t, n, sealOf(epoch, api.MaxSeq))
	}
	stands(t, n, api.Active, 3)
	m := sealOf(4, 0)
	handles(t, n, m, dumpOf(m, 0, true))
	// Not even its own epoch is answered now.
	for _, epoch := range []int{0, 1, 2, 3} {
		handles(t, n, sealOf(epoch, api.MaxSeq))
	}
	stands(t, n, api.Sealed, 3)
}

// The same Seal is heeded again, and so is a later try, or a later epoch; earlier ones
// are not.
func TestSealAgain(t *testing.T) {
	n := active(t, placeOf(9, 99, 2, 2), 3, put("a", 1, ""))
	for _, c := range []struct {
		epoch, n int
		heeded   bool
	}{
		{6, 4, true}, {6, 4, true}, {6, 3, false}, {6, 0, false}, {5, 9, false}, {4, api.MaxSeq, false}, {6, 5, true}, {6, 4, false},
		{8, 0, true}, {8, 0, true}, {7, 5, false}, {6, 5, false}, {8, 1, true}, {8, 0, false}, {9, 0, true}, {8, api.MaxSeq, false},
	} {
		m := sealOf(c.epoch, c.n)
		if c.heeded {
			handles(t, n, m, dumpOf(m, 0, true, put("a", 1, "")))
		} else {
			handles(t, n, m)
		}
		stands(t, n, api.Sealed, 3)
	}
	// It is sealed for epoch 9.
	for _, epoch := range []int{3, 4, 8} {
		handles(t, n, installOf(epoch, api.MaxSeq, 0, true))
	}
	stands(t, n, api.Sealed, 3)
	m := installOf(9, 0, 0, true)
	handles(t, n, m, readyOf(m))
	stands(t, n, api.Active, 9)
}

// What an Install was heeded of is old for a Seal, too.
func TestSealAfterInstall(t *testing.T) {
	n := active(t, placeOf(9, 99, 2, 2), 3)
	handles(t, n, installOf(6, 4, 0, false))
	for _, m := range []api.Msg{sealOf(6, 3), sealOf(5, 9), sealOf(3, 9), sealOf(4, 4)} {
		handles(t, n, m)
		stands(t, n, api.Active, 3)
	}
	m := sealOf(6, 4)
	handles(t, n, m, dumpOf(m, 0, true))
	stands(t, n, api.Sealed, 3)
	other := active(t, placeOf(9, 99, 2, 2), 3)
	handles(t, other, installOf(6, 4, 0, false))
	m = sealOf(7, 0)
	handles(t, other, m, dumpOf(m, 0, true))
}

// While it is sealed, a node keeps what it has, and tells the store of it.
func TestWhileSealed(t *testing.T) {
	a, b := put("a", 1, "x"), put("b", 1, "y")
	n := active(t, placeOf(2, 99, 1, 2), 3, a, b)
	handles(t, n, flushedOf(a))
	m := sealOf(4, 0)
	handles(t, n, m, dumpOf(m, 0, true, a, b))
	for _, epoch := range []int{3, 4} {
		for _, m := range []api.Msg{askOf(epoch, "a"), keepOf(epoch, put("a", 2, "")), keepOf(epoch, put("c", 1, ""))} {
			handles(t, n, m, otherOf(m, 3))
		}
		handles(t, n, fillOf(epoch, put("a", 2, ""), 1))
	}
	marked(t, n, "A b", 1)
	sends(t, "Tick", n.Tick(), beatOf(3), flushOf(3, b))
	handles(t, n, flushedOf(b))
	sends(t, "Tick", n.Tick(), beatOf(3))
	handles(t, n, m, dumpOf(m, 0, true, a, b))
}

// What two of three nodes held is told by any two of them.
func TestEpochsCarryWhatAMajorityHeld(t *testing.T) {
	var nodes []*replica.Node
	for range 3 {
		nodes = append(nodes, active(t, placeOf(9, 99, 2, 2), 1))
	}
	entries := []api.Entry{put("a", 1, "x"), put("b", 1, "y"), gone("a", 2), put("c", 3, "z")}
	for i, e := range entries {
		for k, n := range nodes {
			if k != i%3 {
				m := keepOf(1, e)
				handles(t, n, m, keptOf(m))
			}
		}
	}
	for left := range nodes {
		newest := map[string]api.Entry{}
		for k, n := range nodes {
			if k == left {
				continue
			}
			for _, m := range n.Copy().Handle(sealOf(2, 1)) {
				for _, e := range m.L {
					if e.Tag.Seq > newest[e.Key].Tag.Seq {
						newest[e.Key] = e
					}
				}
			}
		}
		next := nodeAt(t, placeOf(9, 99, 2, 2))
		l := []api.Entry{newest["a"], newest["b"], newest["c"]}
		m := installOf(2, 1, 0, true, l...)
		handles(t, next, m, readyOf(m))
		holds(t, next, gone("a", 2), put("b", 1, "y"), put("c", 3, "z"))
	}
}
