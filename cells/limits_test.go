package cells_test

import (
	"slices"
	"strconv"
	"strings"
	"testing"

	"icehouse/api"
	"icehouse/cells"
)

// nameOf: keys of four bytes that rise.
func nameOf(i int) string {
	return strconv.Itoa(1000000 + i)[3:]
}

// As many cells as a table may have; one more has no room until one is clean.
func TestMostCells(t *testing.T) {
	x := tableOf(t, api.Room{Cells: 4096, Bytes: 1 << 22, Buckets: 256, Fresh: true})
	for i := range 4096 {
		stores(t, x, put(nameOf(i), 1, "v"))
	}
	answers(t, "Store", x.Store(put("5000", 1, "")), api.ErrBusy)
	if n, size := x.Size(); n != 4096 || size != 5*4096 || len(x.Dirty()) != 4096 {
		t.Errorf("%d cells of size %d", n, size)
	}
	cleans(t, x, "3000", "2000")
	stores(t, x, put("5000", 1, ""))
	want := make([]int, 256)
	want[bucketOf("2000", 256)]++
	l := x.Cells()
	if len(l) != 4096 || l[1999].E.Key != "1999" || l[2000].E.Key != "2001" || l[4095].E.Key != "5000" || !slices.Equal(x.Tokens(), want) {
		t.Errorf("%d cells", len(l))
	}
}

// As many bytes as a table may have, in the greatest entries.
func TestMostBytes(t *testing.T) {
	x := tableOf(t, roomOf(4096, 1<<22))
	great := strings.Repeat("v", 60000)
	for i := range 69 {
		stores(t, x, put(nameOf(i), 1, great))
	}
	rest := 1<<22 - 69*60004
	answers(t, "Store", x.Store(put("last", 1, strings.Repeat("v", rest-3))), api.ErrBusy)
	stores(t, x, put("last", 1, strings.Repeat("v", rest-4)))
	if n, size := x.Size(); n != 70 || size != 1<<22 {
		t.Errorf("%d cells of size %d", n, size)
	}
	answers(t, "Store", x.Store(put("k", 1, "")), api.ErrBusy)
	stores(t, x, put("last", 2, strings.Repeat("v", rest-5)), put("k", 1, ""))
	if n, size := x.Size(); n != 71 || size != 1<<22 {
		t.Errorf("%d cells of size %d", n, size)
	}
}

// small returns a table full of cells of four bytes each; all are clean but the last ones,
// of which so many are not.
func small(t *testing.T, dirty int) *cells.Table {
	t.Helper()
	x := tableOf(t, roomOf(4096, 4*4096))
	for i := range 4096 {
		stores(t, x, put(nameOf(i), 1, ""))
	}
	for i := range 4096 - dirty {
		cleans(t, x, nameOf(i))
	}
	return x
}

// One entry takes the room of all others.
func TestOneForAll(t *testing.T) {
	x := small(t, 0)
	e := put("great", 1, strings.Repeat("v", 4*4096-5))
	stores(t, x, e)
	has(t, "one for all", x, []api.Cell{cell(e, true, false, 4097)}, 4096)
}

// One entry that isn't clean keeps its place, and with it all others, however often it
// is tried.
func TestOneKeepsAll(t *testing.T) {
	x := small(t, 1)
	before := x.Cells()
	for range 100 {
		answers(t, "Store", x.Store(put("great", 1, strings.Repeat("v", 4*4096-5))), api.ErrBusy)
		if ok, e := x.Fill(put("great", 1, strings.Repeat("v", 4*4096-8)), 0); ok || e != api.ErrBusy {
			t.Errorf("Fill: %v, error %d", ok, e)
		}
	}
	has(t, "nothing goes", x, before, 0)
	fills(t, x, put("great", 1, strings.Repeat("v", 4*4096-9)), 0)
	want := cell(put("great", 1, strings.Repeat("v", 4*4096-9)), true, true, 4097)
	has(t, "all but one go", x, []api.Cell{before[4095], want}, 4095)
}

// Keys and values as long as they may be.
func TestLongEntries(t *testing.T) {
	key, v := strings.Repeat("k", 250), strings.Repeat("v", 60000)
	x := tableOf(t, roomOf(1, 60250))
	stores(t, x, put(key, 1<<40-1, v))
	tells(t, x, key, api.Reply{E: put(key, 1<<40-1, v), Whole: true})
	answers(t, "Store", x.Store(put(key+"k", 1, "")), api.ErrArg)
	answers(t, "Store", x.Store(put(key, 1, v+"v")), api.ErrArg)
	y := tableOf(t, roomOf(1, 60249))
	busy(t, y, put(key, 1, v))
	stores(t, y, put(key, 1, v[1:]))
	busy(t, y, put(key, 2, v))
}
