package replica_test

import (
	"slices"
	"strings"
	"testing"

	"icehouse/api"
)

func TestInstall(t *testing.T) {
	n := nodeAt(t, placeOf(9, 99, 2, 2))
	handles(t, n, installOf(3, 1, 0, false, put("b", 1, "x"), gone("a", 2)))
	stands(t, n, api.Apart, 0)
	holds(t, n, gone("a", 2), put("b", 1, "x"))
	m := installOf(3, 1, 1, true, put("b", 2, "y"), put("a", 1, "old"), put("c", 1, ""))
	handles(t, n, m, readyOf(m))
	stands(t, n, api.Active, 3)
	holds(t, n, gone("a", 2), put("b", 2, "y"), put("c", 1, ""))
	marked(t, n, "a b c", 1)
}

// Nothing is whole behind an Install, whatever the node knew before; and nothing is clean
// that was stored by it, but what was clean stays so.
func TestInstallForgets(t *testing.T) {
	p := placeOf(9, 99, 2, 2)
	p.Room.Buckets = 3
	n := active(t, p, 1, put("a", 1, "x"))
	handles(t, n, fillOf(1, unwritten("b"), 1))
	handles(t, n, fillOf(1, put("c", 1, "z"), 1))
	marked(t, n, "a B* C*", 1, 1, 1)
	m := installOf(2, 0, 0, true, put("c", 1, "z"), put("a", 2, "y"))
	handles(t, n, m, readyOf(m))
	marked(t, n, "a B C", 2, 2, 2)
	m = askOf(2, "q")
	handles(t, n, m, toldOf(m, unwritten("q"), false, 2))
}

// What was not written is passed over.
func TestInstallOfUnwritten(t *testing.T) {
	n := nodeAt(t, placeOf(1, 99, 2, 2))
	m := installOf(1, 0, 0, true, unwritten("a"), put("b", 1, "x"), unwritten("c"), unwritten("b"))
	handles(t, n, m, readyOf(m))
	holds(t, n, put("b", 1, "x"))
}

func TestInstallOfEpoch0(t *testing.T) {
	n := nodeAt(t, placeOf(3, 99, 2, 2))
	for _, k := range []int{0, 1, api.MaxSeq} {
		handles(t, n, installOf(0, k, 0, true, put("a", 1, "x")))
	}
	stands(t, n, api.Apart, 0)
	marked(t, n, "", 0)
	m := installOf(1, 0, 0, true)
	handles(t, n, m, readyOf(m))
	handles(t, n, installOf(0, 0, 0, true))
}

// A node that is active in an epoch says so, however often, and does nothing else.
func TestInstallOfTheSameEpoch(t *testing.T) {
	n := active(t, placeOf(3, 99, 2, 2), 4, put("a", 1, "x"))
	for _, m := range []api.Msg{
		installOf(4, 0, 0, true, put("a", 9, "y")), installOf(4, 9, 3, false, put("b", 9, "y")), installOf(4, api.MaxSeq, api.MaxSeq, true), installOf(4, 0, 0, false),
	} {
		handles(t, n, m, readyOf(m))
	}
	stands(t, n, api.Active, 4)
	marked(t, n, "a", 1)
	holds(t, n, put("a", 1, "x"))
	// None of these was heeded.
	handles(t, n, sealOf(4, 0), dumpOf(sealOf(4, 0), 0, true, put("a", 1, "x")))
	// But it says so of a try that is old, too.
	handles(t, n, sealOf(4, 8), dumpOf(sealOf(4, 8), 0, true, put("a", 1, "x")))
	m := installOf(4, 7, 0, true)
	handles(t, n, m, readyOf(m))
}

func TestInstallOfEarlierEpochs(t *testing.T) {
	n := active(t, placeOf(3, 99, 2, 2), 4)
	for _, epoch := range []int{0, 1, 2, 3} {
		handles(t, n, installOf(epoch, api.MaxSeq, 0, true, put("a", 1, "x")))
	}
	stands(t, n, api.Active, 4)
	marked(t, n, "", 1)
}

// A node that is sealed for an epoch is installed in that one, or in a later one.
func TestInstallOfSealed(t *testing.T) {
	for epoch := range 9 {
		n := active(t, placeOf(3, 99, 2, 2), 4, put("a", 1, "x"))
		handles(t, n, sealOf(6, 2), dumpOf(sealOf(6, 2), 0, true, put("a", 1, "x")))
		m := installOf(epoch, 2, 0, true, put("b", 1, "y"))
		if epoch < 6 {
			handles(t, n, m)
			stands(t, n, api.Sealed, 4)
			marked(t, n, "a", 1)
			continue
		}
		handles(t, n, m, readyOf(m))
		stands(t, n, api.Active, epoch)
		marked(t, n, "a b", 2)
	}
}

// A try that is older than that of a Seal installs nothing.
func TestInstallAfterSeal(t *testing.T) {
	n := active(t, placeOf(3, 99, 2, 2), 4)
	handles(t, n, sealOf(6, 2), dumpOf(sealOf(6, 2), 0, true))
	for _, k := range []int{0, 1} {
		handles(t, n, installOf(6, k, 0, true, put("a", 1, "x")))
	}
	stands(t, n, api.Sealed, 4)
	marked(t, n, "", 1)
	m := installOf(6, 3, 0, true)
	handles(t, n, m, readyOf(m))
}

// A node that is active goes on in its epoch until all of the next one is there; but what
// it tells is not whole any more.
func TestInstallOfActive(t *testing.T) {
	n := active(t, placeOf(3, 99, 2, 2), 1, put("a", 1, "x"))
	handles(t, n, fillOf(1, put("a", 1, "x"), 1))
	m := askOf(1, "a")
	handles(t, n, m, toldOf(m, put("a", 1, "x"), true, 1))
	handles(t, n, installOf(3, 0, 1, true, put("b", 1, "y")))
	stands(t, n, api.Active, 1)
	handles(t, n, m, toldOf(m, put("a", 1, "x"), false, 2))
	k := keepOf(1, put("a", 2, "z"))
	handles(t, n, k, keptOf(k))
	sends(t, "Tick", n.Tick(), beatOf(1), flushOf(1, put("a", 2, "z")), flushOf(1, put("b", 1, "y")))
	// It is ready if it is asked to be installed where it is.
	i := installOf(1, 0, 0, true)
	handles(t, n, i, readyOf(i))
	i = installOf(3, 0, 0, false)
	handles(t, n, i, readyOf(i))
	stands(t, n, api.Active, 3)
	handles(t, n, m, otherOf(m, 3))
	sends(t, "Tick", n.Tick(), beatOf(3), flushOf(3, put("a", 2, "z")), flushOf(3, put("b", 1, "y")))
}

// In whatever order the messages come, and however often: the node is ready when all up
// to the last one are there, and not before.
func TestInstallInAnyOrder(t *testing.T) {
	for size := 1; size <= 4; size++ {
		rowsOf(size, 5, func(row []int) {
			n := nodeAt(t, placeOf(9, 99, 2, 2))
			got := map[int]bool{}
			for _, op := range row {
				m := installOf(2, 1, op, op == size-1, put(string(rune('a'+op)), 1, "v"))
				was := len(got) == size
				got[op] = true
				if len(got) == size {
					handles(t, n, m, readyOf(m))
				} else {
					handles(t, n, m)
				}
				if is := n.Mode() == api.Active; is != (len(got) == size) {
					t.Errorf("%v: active %v, before %v", row, is, was)
				}
			}
			marked(t, n, lettersOf(got), 1)
		})
	}
}

// rowsOf calls do with each row of so many numbers below n.
func rowsOf(n, size int, do func(row []int)) {
	row := make([]int, size)
	var next func(i int)
	next = func(i int) {
		if i == size {
			do(row)
			return
		}
		for row[i] = 0; row[i] < n; row[i]++ {
			next(i + 1)
		}
	}
	next(0)
}

func lettersOf(got map[int]bool) string {
	var out []string
	for op := range got {
		out = append(out, string(rune('a'+op)))
	}
	slices.Sort(out)
	return strings.Join(out, " ")
}

// The last Op is what the latest message with Flag says.
func TestLastOp(t *testing.T) {
	n := nodeAt(t, placeOf(9, 99, 2, 2))
	handles(t, n, installOf(1, 0, 2, true))
	handles(t, n, installOf(1, 0, 0, false))
	handles(t, n, installOf(1, 0, 2, false))
	handles(t, n, installOf(1, 0, 3, true))
	handles(t, n, installOf(1, 0, 5, false))
	stands(t, n, api.Apart, 0)
	for _, op := range []int{0, 2} {
		c := n.Copy()
		m := installOf(1, 0, op, true)
		if op == 0 {
			handles(t, c, m, readyOf(m))
		} else {
			handles(t, c, m)
		}
		m = installOf(1, 0, 1, false)
		handles(t, c, m, readyOf(m))
	}
	m := installOf(1, 0, 1, true)
	handles(t, n, m, readyOf(m))
}

// A first message that is not the last one, and a last one that is the first.
func TestOp0(t *testing.T) {
	n := nodeAt(t, placeOf(9, 99, 2, 2))
	handles(t, n, installOf(1, 0, 0, false))
	handles(t, n, installOf(1, 0, 0, false))
	stands(t, n, api.Apart, 0)
	m := installOf(1, 0, 0, true)
	handles(t, n, m, readyOf(m))
	one := nodeAt(t, placeOf(9, 99, 2, 2))
	handles(t, one, installOf(1, 0, 1, true))
	m = installOf(1, 0, 0, false)
	handles(t, one, m, readyOf(m))
}

// Each try, and each epoch, begins anew: what was received of another one does not count.
func TestAnotherTry(t *testing.T) {
	for _, c := range []struct{ epoch, n int }{{2, 6}, {2, 9}, {3, 5}, {3, 0}, {9, 9}} {
		n := nodeAt(t, placeOf(9, 99, 2, 2))
		handles(t, n, installOf(2, 5, 1, true, put("a", 1, "x")))
		marked(t, n, "a", 1)
		handles(t, n, installOf(c.epoch, c.n, 0, false, put("b", 1, "y")))
		stands(t, n, api.Apart, 0)
		marked(t, n, "a b", 2)
		// The one before is old now.
		handles(t, n, installOf(2, 5, 0, true))
		handles(t, n, installOf(2, 5, 0, false))
		marked(t, n, "a b", 2)
		m := installOf(c.epoch, c.n, 1, true, put("c", 1, "z"))
		handles(t, n, m, readyOf(m))
		stands(t, n, api.Active, c.epoch)
		marked(t, n, "a b c", 2)
	}
}

// Older tries are not joined.
func TestOldTries(t *testing.T) {
	n := nodeAt(t, placeOf(9, 99, 2, 2))
	handles(t, n, installOf(3, 5, 0, false))
	for _, m := range []api.Msg{installOf(3, 4, 0, true, put("a", 1, "x")), installOf(2, 9, 0, true, put("a", 1, "x")), installOf(1, 5, 0, true), installOf(3, 0, 1, true)} {
		handles(t, n, m)
	}
	stands(t, n, api.Apart, 0)
	marked(t, n, "", 1)
	m := installOf(3, 5, 1, true)
	handles(t, n, m, readyOf(m))
}

// A Seal between the messages of a try does not end it; one of a later try does.
func TestSealWhileJoining(t *testing.T) {
	for k := range 5 {
		n := active(t, placeOf(9, 99, 2, 2), 1, put("a", 1, "x"))
		handles(t, n, installOf(2, 3, 0, false))
		seal, last := sealOf(2, k), installOf(2, 3, 1, true)
		if k < 3 {
			handles(t, n, seal)
			stands(t, n, api.Active, 1)
		} else {
			handles(t, n, seal, dumpOf(seal, 0, true, put("a", 1, "x")))
			stands(t, n, api.Sealed, 1)
		}
		if k > 3 {
			handles(t, n, last)
			stands(t, n, api.Sealed, 1)
			marked(t, n, "a", 2)
			// The next try has all to send again.
			handles(t, n, installOf(2, k, 1, true))
			marked(t, n, "a", 3)
			last = installOf(2, k, 0, false)
		}
		handles(t, n, last, readyOf(last))
		stands(t, n, api.Active, 2)
	}
}

// A message without room for all is not received; what had room is stored, and the rest
// is, when it is sent again and there is room.
func TestInstallWithoutRoom(t *testing.T) {
	n := nodeAt(t, placeOf(2, 99, 9, 2))
	m := installOf(1, 0, 0, true, put("a", 1, "x"), put("b", 1, "y"), put("c", 1, "z"), put("a", 2, "later"))
	for range 3 {
		handles(t, n, m)
		stands(t, n, api.Apart, 0)
		holds(t, n, put("a", 1, "x"), put("b", 1, "y"))
		marked(t, n, "a b", 1)
	}
	sends(t, "Tick", n.Tick(), beatOf(0), flushOf(0, put("a", 1, "x")), flushOf(0, put("b", 1, "y")))
	handles(t, n, flushedOf(put("a", 1, "x")))
	handles(t, n, m)
	// The a that is evicted is the one that comes first when all is sent again.
	holds(t, n, put("b", 1, "y"), put("c", 1, "z"))
	handles(t, n, flushedOf(put("b", 1, "y")))
	handles(t, n, flushedOf(put("c", 1, "z")))
	m = installOf(1, 0, 0, true, put("a", 1, "x"), put("c", 1, "z"))
	handles(t, n, m, readyOf(m))
	stands(t, n, api.Active, 1)
}

// Without room neither the Op nor the Flag counts; but the try is heeded, and joined.
func TestWithoutRoomNothingMore(t *testing.T) {
	n := active(t, placeOf(1, 99, 2, 2), 1, put("a", 1, "x"))
	handles(t, n, installOf(2, 3, 0, true, put("b", 1, "y")))
	stands(t, n, api.Active, 1)
	marked(t, n, "a", 2)
	handles(t, n, sealOf(2, 2))
	handles(t, n, installOf(2, 2, 0, true))
	handles(t, n, installOf(2, 3, 0, false))
	handles(t, n, installOf(2, 3, 1, true, put("b", 1, "y")))
	handles(t, n, installOf(2, 3, 2, false))
	stands(t, n, api.Active, 1)
	marked(t, n, "a", 2)
	m := installOf(2, 3, 1, true, unwritten("b"))
	handles(t, n, m, readyOf(m))
}

// Entries that the store has make room for those of an epoch, and those of the same
// message that were stored before do not.
func TestInstallEvicts(t *testing.T) {
	n := active(t, placeOf(2, 99, 2, 2), 1, put("a", 1, "x"), put("b", 1, "y"))
	handles(t, n, flushedOf(put("a", 1, "x")))
	handles(t, n, flushedOf(put("b", 1, "y")))
	m := installOf(2, 0, 0, true, put("c", 1, ""), put("d", 1, ""))
	handles(t, n, m, readyOf(m))
	marked(t, n, "c d", 4)
	handles(t, n, flushedOf(put("c", 1, "")))
	handles(t, n, installOf(3, 0, 0, true, put("e", 1, ""), put("f", 1, "")))
	stands(t, n, api.Active, 2)
	marked(t, n, "d e", 6)
}

// From epoch to epoch, sealed in between or not.
func TestManyEpochs(t *testing.T) {
	n := nodeAt(t, placeOf(9, 99, 2, 2))
	for epoch := 1; epoch <= 40; epoch++ {
		if epoch%3 == 0 {
			m := sealOf(epoch, epoch)
			handles(t, n, m, dumpOf(m, 0, true, put("a", epoch-1, "v")))
		}
		m := installOf(epoch, epoch, 0, true, put("a", epoch, "v"))
		handles(t, n, m, readyOf(m))
		stands(t, n, api.Active, epoch)
		marked(t, n, "a", epoch)
		m = askOf(epoch, "a")
		handles(t, n, m, toldOf(m, put("a", epoch, "v"), false, epoch))
	}
}
