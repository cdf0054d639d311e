package replica_test

import (
	"slices"
	"testing"

	"icehouse/api"
	"icehouse/replica"
)

// entry of a key, as all of these tests have it.
func entry(key string) api.Entry { return put(key, 1, "v") }

// ticks holds the keys that are flushed against these.
func ticks(t *testing.T, n *replica.Node, epoch int, keys ...string) {
	t.Helper()
	want := []api.Msg{beatOf(epoch)}
	for _, key := range keys {
		want = append(want, flushOf(epoch, entry(key)))
	}
	sends(t, "Tick", n.Tick(), want...)
}

func stored(t *testing.T, batch int, keys ...string) *replica.Node {
	t.Helper()
	n := active(t, placeOf(64, 999, batch, 2), 3)
	keeps(t, n, keys...)
	return n
}

func keeps(t *testing.T, n *replica.Node, keys ...string) {
	t.Helper()
	for _, key := range keys {
		m := keepOf(3, entry(key))
		handles(t, n, m, keptOf(m))
	}
}

func flushes(t *testing.T, n *replica.Node, keys ...string) {
	t.Helper()
	for _, key := range keys {
		handles(t, n, flushedOf(entry(key)))
	}
}

// Round and round, as many at once as Batch says, none twice.
func TestTick(t *testing.T) {
	keys := []string{"a", "b", "c", "d", "e"}
	for batch := 1; batch <= 8; batch++ {
		n := stored(t, batch, "c", "a", "e", "b", "d")
		next := 0
		for range 20 {
			var want []string
			for range min(batch, len(keys)) {
				want = append(want, keys[next])
				next = (next + 1) % len(keys)
			}
			ticks(t, n, 3, want...)
		}
	}
}

// A Flush has the whole entry, also one without a value.
func TestFlushOfEntries(t *testing.T) {
	l := []api.Entry{gone("a", 7), put("b", api.MaxSeq, ""), put("c", 1, "\x00\xff")}
	n := active(t, placeOf(9, 99, 9, 2), 3, l...)
	sends(t, "Tick", n.Tick(), beatOf(3), flushOf(3, l[0]), flushOf(3, l[1]), flushOf(3, l[2]))
}

// Entries that come and go between the ticks.
func TestTickGoesOn(t *testing.T) {
	n := stored(t, 2, "b", "d", "f")
	ticks(t, n, 3, "b", "d")
	keeps(t, n, "a", "e", "g")
	ticks(t, n, 3, "e", "f")
	flushes(t, n, "f", "g")
	ticks(t, n, 3, "a", "b")
	flushes(t, n, "b", "d")
	ticks(t, n, 3, "e", "a")
	flushes(t, n, "a", "e")
	ticks(t, n, 3)
	ticks(t, n, 3)
	// It was a that was flushed last.
	keeps(t, n, "aa", "0", "c")
	ticks(t, n, 3, "aa", "c")
	ticks(t, n, 3, "0", "aa")
}

// The one that was flushed last may be flushed again, when its turn comes.
func TestTickOfOne(t *testing.T) {
	n := stored(t, 2, "k")
	for range 3 {
		ticks(t, n, 3, "k")
	}
	keeps(t, n, "j")
	ticks(t, n, 3, "j", "k")
	flushes(t, n, "j")
	ticks(t, n, 3, "k")
}

// Keys are compared byte by byte, a shorter one first.
func TestTickByBytes(t *testing.T) {
	keys := []string{"\x00", "\x00\x00", "A", "Z", "a", "aa", "ab", "b", "\x7f", "\x80", "\xc3\xa4", "\xff", "\xff\xff"}
	back := slices.Clone(keys)
	slices.Reverse(back)
	n := stored(t, 1, back...)
	for range 2 {
		for _, key := range keys {
			ticks(t, n, 3, key)
		}
	}
}

// A Tick doesn't use cells, nor make them clean.
func TestTickChangesNothing(t *testing.T) {
	n := stored(t, 2, "a", "b", "c")
	before := n.Cells()
	for range 5 {
		n.Tick()
	}
	if got := n.Cells(); !slices.EqualFunc(got, before, sameCell) {
		t.Errorf("the cells are %v, not %v", got, before)
	}
	stands(t, n, api.Active, 3)
}

// A node ticks however it stands, with the epoch that it was installed in last.
func TestTickOfAllModes(t *testing.T) {
	n := nodeAt(t, placeOf(9, 99, 1, 2))
	ticks(t, n, 0)
	handles(t, n, installOf(3, 1, 0, false, entry("a"), entry("b")))
	ticks(t, n, 0, "a")
	m := installOf(3, 1, 1, true, entry("c"))
	handles(t, n, m, readyOf(m))
	ticks(t, n, 3, "b")
	s := sealOf(8, 0)
	handles(t, n, s, dumpOf(s, 0, false, entry("a"), entry("b")), dumpOf(s, 1, true, entry("c")))
	ticks(t, n, 3, "c")
	handles(t, n, installOf(8, 1, 1, false))
	ticks(t, n, 3, "a")
	m = installOf(8, 1, 0, true)
	handles(t, n, m, readyOf(m))
	ticks(t, n, 8, "b")
}

// Nothing is flushed that the store has.
func TestTickOfCleanOnes(t *testing.T) {
	n := stored(t, 9, "a", "b", "c")
	handles(t, n, fillOf(3, unwritten("d"), 1))
	handles(t, n, fillOf(3, entry("b"), 1))
	flushes(t, n, "a")
	ticks(t, n, 3, "c")
	m := keepOf(3, put("a", 2, "w"))
	handles(t, n, m, keptOf(m))
	sends(t, "Tick", n.Tick(), beatOf(3), flushOf(3, put("a", 2, "w")), flushOf(3, entry("c")))
}
