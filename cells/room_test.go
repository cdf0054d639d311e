package cells_test

import (
	"slices"
	"strings"
	"testing"

	"icehouse/api"
	"icehouse/cells"
)

func busy(t *testing.T, x *cells.Table, e api.Entry) {
	t.Helper()
	before, tokens := x.Cells(), x.Tokens()
	answers(t, "Store of "+e.Key, x.Store(e), api.ErrBusy)
	has(t, "no room for Store", x, before, tokens...)
	token := tokens[bucketOf(e.Key, len(tokens))]
	if ok, err := x.Fill(e, token); ok || err != api.ErrBusy {
		t.Errorf("Fill of %s: %v, error %d", e.Key, ok, err)
	}
	has(t, "no room for Fill", x, before, tokens...)
}

func keysOf(x *cells.Table) string {
	var l []string
	for _, c := range x.Cells() {
		l = append(l, c.E.Key)
	}
	return strings.Join(l, "")
}

// What the store may not have is never evicted.
func TestNoRoom(t *testing.T) {
	x := filled(t, 2, 9, put("a", 1, "12"), put("b", 1, "34"))
	busy(t, x, put("c", 1, ""))
	busy(t, x, put("a", 2, "123456"))
	busy(t, x, gone("c", 1))
	stores(t, x, put("a", 2, "12345"))
	busy(t, x, put("b", 2, "345"))
	stores(t, x, put("b", 2, ""), put("a", 3, "1234567"))
	has(t, "what has room", x, []api.Cell{cell(put("a", 3, "1234567"), true, false, 5), cell(put("b", 2, ""), true, false, 4)}, 0)
}

// What is greater than the room has none, and evicts nothing.
func TestTooGreat(t *testing.T) {
	for _, clean := range []bool{false, true} {
		x := filled(t, 3, 9, put("a", 1, "1"), put("b", 1, ""))
		if clean {
			cleans(t, x, "a", "b")
		}
		busy(t, x, put("c", 1, "123456789"))
		busy(t, x, put("a", 2, "123456789"))
		busy(t, x, put("cccccccccc", 1, ""))
		busy(t, x, put("c", 1, strings.Repeat("v", 60000)))
		busy(t, x, api.Entry{Key: "cccccccccc", Tag: tag(1, 0, 0)})
	}
}

// The smallest room is full with one byte.
func TestSmallestRoom(t *testing.T) {
	x := tableOf(t, roomOf(1, 1))
	busy(t, x, put("a", 1, "v"))
	busy(t, x, put("aa", 1, ""))
	stores(t, x, put("a", 1, ""))
	busy(t, x, put("b", 1, ""))
	busy(t, x, put("a", 2, "v"))
	stores(t, x, gone("a", 2))
	cleans(t, x, "a")
	busy(t, x, put("a", 3, "v"))
	fills(t, x, unwritten("b"), 0)
	has(t, "one byte", x, []api.Cell{cell(unwritten("b"), true, true, 3)}, 1)
}

// Those that were used least lately are evicted first, each use counts, and no more of
// them than have to be.
func TestEvictionByUse(t *testing.T) {
	for _, c := range []struct {
		name string
		use  func(x *cells.Table)
		left []string // with a new cell, then with another one that takes so many bytes, ..
	}{
		{"as they were stored", func(x *cells.Table) {}, []string{"bcdz", "cdyz", "dxyz", "wxyz"}},
		{"Query", func(x *cells.Table) { x.Query("a"); x.Query("c") }, []string{"acdz", "acyz", "cxyz", "wxyz"}},
		{"Query of others", func(x *cells.Table) { x.Query("q"); x.Query("") }, []string{"bcdz", "cdyz", "dxyz", "wxyz"}},
		{"Store of old ones", func(x *cells.Table) { x.Store(put("b", 1, "")); x.Store(put("a", 2, "other")) }, []string{"abdz", "abyz", "axyz", "wxyz"}},
		{"Fill of old ones", func(x *cells.Table) { x.Fill(put("b", 1, ""), 0); x.Fill(unwritten("a"), 0) }, []string{"abdz", "abyz", "axyz", "wxyz"}},
		{"Fill of the same", func(x *cells.Table) { x.Fill(put("a", 2, "1"), 0) }, []string{"acdz", "adyz", "axyz", "wxyz"}},
		{"Clean is no use", func(x *cells.Table) { x.Clean("a", tag(9, 0, 0)); x.Clean("b", tag(9, 0, 0)) }, []string{"bcdz", "cdyz", "dxyz", "wxyz"}},
		{"Fill that is refused is no use", func(x *cells.Table) { x.Fill(put("a", 3, "1"), 7); x.Fill(put("b", 0, "1"), 0) }, []string{"bcdz", "cdyz", "dxyz", "wxyz"}},
		{"Cells, Dirty and Copy are no uses", func(x *cells.Table) { x.Cells(); x.Dirty(); x.Copy().Query("a") }, []string{"bcdz", "cdyz", "dxyz", "wxyz"}},
	} {
		x := filled(t, 4, 99, put("a", 2, "1"), put("b", 2, "1"), put("c", 2, "1"), put("d", 2, "1"))
		cleans(t, x, "a", "b", "c", "d")
		c.use(x)
		for i, key := range []string{"z", "y", "x", "w"} {
			stores(t, x, put(key, 1, "1"))
			if got := keysOf(x); got != c.left[i] || x.Tokens()[0] != i+1 {
				t.Errorf("%s: %s, token %d", c.name, got, x.Tokens()[0])
			}
		}
		busy(t, x, put("v", 1, ""))
	}
}

// As many as have to be are evicted, but not one that isn't clean, or is of the same key.
func TestEvictionOfSeveral(t *testing.T) {
	for _, c := range []struct {
		e    api.Entry
		left string
	}{
		{put("e", 1, ""), "abcde"}, {put("e", 1, "1"), "acde"}, {put("e", 1, "12"), "acde"}, {put("e", 1, "123"), "ade"},
		{put("e", 1, "1234"), "ade"}, {put("e", 1, "12345"), "ae"}, {put("e", 1, "123456"), "ae"}, {put("e", 1, "1234567"), ""},
		{put("b", 2, "12"), "abcd"}, {put("b", 2, "123"), "abd"}, {put("b", 2, "12345"), "ab"}, {put("b", 2, "1234567"), ""},
		{put("a", 2, "12"), "abcd"}, {put("a", 2, "123"), "acd"}, {put("a", 2, "1234567"), "a"}, {put("a", 2, "12345678"), "a"}, {put("a", 2, "123456789"), ""},
		{put("eeee", 1, ""), "ade" + "eee"}, {put("eeee", 1, "12"), "aeeee"}, {put("aa", 1, ""), "aaacd"},
	} {
		x := filled(t, 5, 9, put("a", 1, "1"), put("b", 1, "1"), put("c", 1, "1"), put("d", 1, "1"))
		cleans(t, x, "b", "c", "d")
		if c.left == "" {
			busy(t, x, c.e)
			continue
		}
		for _, fill := range []bool{false, true} {
			y := x.Copy()
			if fill {
				fills(t, y, c.e, 0)
			} else {
				stores(t, y, c.e)
			}
			n, size := y.Size()
			if got := keysOf(y); got != c.left || size > 9 || n > 5 {
				t.Errorf("%s %q, fill %v: %s, size %d", c.e.Key, c.e.Val.B, fill, got, size)
			}
		}
	}
}

// The cell of the same key is neither evicted nor counted, be it the oldest and clean.
func TestRoomInPlace(t *testing.T) {
	x := filled(t, 2, 9, put("a", 1, "12"), put("b", 1, "12"))
	cleans(t, x, "a", "b")
	stores(t, x, put("a", 2, "123"))
	has(t, "a grows", x, []api.Cell{cell(put("a", 2, "123"), true, false, 3), cell(put("b", 1, "12"), true, true, 2)}, 0)
	cleans(t, x, "a")
	stores(t, x, put("b", 2, "12345"))
	has(t, "b grows", x, []api.Cell{cell(put("b", 2, "12345"), true, false, 4)}, 1)
	cleans(t, x, "b")
	stores(t, x, put("b", 3, "12345678"), put("b", 4, ""))
	has(t, "b shrinks", x, []api.Cell{cell(put("b", 4, ""), true, false, 6)}, 1)
}

// Whether an entry is whole is decided before room is made for it.
func TestWholeBeforeEviction(t *testing.T) {
	x := filled(t, 1, 9, put("a", 1, ""))
	cleans(t, x, "a")
	stores(t, x, put("b", 1, ""))
	has(t, "the first eviction", x, []api.Cell{cell(put("b", 1, ""), true, false, 2)}, 1)
	cleans(t, x, "b")
	stores(t, x, put("a", 2, ""))
	has(t, "the second one", x, []api.Cell{cell(put("a", 2, ""), false, false, 3)}, 2)
	cleans(t, x, "a")
	fills(t, x, put("b", 1, ""), 2)
	has(t, "the token was that before", x, []api.Cell{cell(put("b", 1, ""), true, true, 4)}, 3)
}

// What is evicted counts in its own bucket, not in that of the key that takes its room.
func TestEvictionByBuckets(t *testing.T) {
	keys := []string{"a", "b", "c", "d", "e", "f", "g", "h"}
	for _, n := range []int{2, 3, 5} {
		for _, old := range keys {
			for _, key := range keys {
				if key == old {
					continue
				}
				x := tableOf(t, api.Room{Cells: 1, Bytes: 9, Buckets: n, Fresh: true})
				fills(t, x, put(old, 1, ""), 0)
				want := make([]int, n)
				stores(t, x, put(key, 1, ""))
				want[bucketOf(old, n)]++
				has(t, old+" for "+key, x, []api.Cell{cell(put(key, 1, ""), true, false, 2)}, want...)
			}
		}
	}
}

// Whatever is clean and of whatever size: the model of the chapter's words is found, and
// the capacity kept.
func TestAllCleanSets(t *testing.T) {
	keys := []string{"a", "b", "c", "d", "e"}
	for set := range 1 << len(keys) {
		for size := range 12 {
			for _, key := range []string{"a", "c", "e", "z"} {
				room := roomOf(5, 20)
				x, s := tableOf(t, room), sheetOf(room)
				for i, k := range keys {
					e := put(k, 1, strings.Repeat("v", i))
					stores(t, x, e)
					s, _ = s.store(e)
					if set>>i&1 == 1 {
						cleans(t, x, k)
						s, _ = s.cleaned(k, e.Tag)
					}
				}
				e := put(key, 2, strings.Repeat("v", size))
				next, want := s.store(e)
				answers(t, "Store", x.Store(e), want)
				has(t, "Store", x, next.sorted(), next.tokens...)
				if want != api.OK && !slices.EqualFunc(next.sorted(), s.sorted(), sameCell) {
					t.Fatal("the model is wrong")
				}
			}
		}
	}
}
