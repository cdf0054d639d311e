package cells_test

import (
	"slices"
	"strings"
	"testing"

	"icehouse/api"
	"icehouse/cells"
)

// spoil overwrites bytes up to their capacity.
func spoil(b []byte) {
	b = b[:cap(b)]
	for i := range b {
		b[i] = '#'
	}
}

func spoilCells(l []api.Cell) {
	l = l[:cap(l)]
	for i := range l {
		spoil(l[i].E.Val.B)
		l[i] = cell(put("#", 77, "#"), true, true, -7)
	}
}

func spoilEntries(l []api.Entry) {
	l = l[:cap(l)]
	for i := range l {
		spoil(l[i].Val.B)
		l[i] = put("#", 77, "#")
	}
}

func spoilTokens(l []int) {
	l = l[:cap(l)]
	for i := range l {
		l[i] = -77
	}
}

func usual(t *testing.T) (*cells.Table, []api.Cell) {
	t.Helper()
	x := filled(t, 3, 99, put("a", 1, "one"), put("b", 2, "two"), put("c", 3, ""))
	cleans(t, x, "b")
	return x, []api.Cell{cell(put("a", 1, "one"), true, false, 1), cell(put("b", 2, "two"), true, true, 2), cell(put("c", 3, ""), true, false, 3)}
}

// What becomes of an entry later is not seen in its cell, and what becomes of the cell
// not in the entry, or in the bytes behind it.
func TestEntriesAreNotRetained(t *testing.T) {
	b := []byte("value and more")
	e := api.Entry{Key: "a", Tag: tag(1, 0, 0), Val: api.Val{Has: true, B: b[:5]}}
	x := filled(t, 3, 99, e)
	f := e
	f.Key = "b"
	fills(t, x, f, 0)
	tells(t, x, "a", api.Reply{E: e, Whole: true})
	x.Clean("a", e.Tag)
	stores(t, x, put("a", 2, "123456"), put("b", 2, "654321"))
	if string(b) != "value and more" {
		t.Errorf("the value is now %s", b)
	}
	for _, key := range []string{"a", "b"} {
		y := tableOf(t, roomOf(3, 99))
		own := api.Entry{Key: key, Tag: tag(1, 0, 0), Val: api.Val{Has: true, B: []byte("value")}}
		if key == "a" {
			stores(t, y, own)
		} else {
			fills(t, y, own, 0)
		}
		spoil(own.Val.B)
		own.Val.B = []byte("value")
		tells(t, y, key, api.Reply{E: own, Whole: true})
		has(t, "an entry that was spoilt", y, []api.Cell{cell(own, true, key == "b", 2)}, 0)
	}
}

// What becomes of a result is not seen in another one, or in the table.
func TestResultsAreNewMemory(t *testing.T) {
	x, want := usual(t)
	one, other := x.Cells(), x.Cells()
	spoilCells(one)
	if !slices.EqualFunc(other, want, sameCell) {
		t.Errorf("the other cells are %v", other)
	}
	has(t, "Cells", x, want, 0)
	first, second := x.Dirty(), x.Dirty()
	spoilEntries(first)
	if !alike(second, dirtyOf(want)) {
		t.Errorf("the other entries are %v", second)
	}
	has(t, "Dirty", x, want, 0)
	tokens, again := x.Tokens(), x.Tokens()
	spoilTokens(tokens)
	if !slices.Equal(again, []int{0}) {
		t.Errorf("the other tokens are %v", again)
	}
	has(t, "Tokens", x, want, 0)
	r, _ := x.Query("a")
	q, _ := x.Query("a")
	spoil(r.E.Val.B)
	if string(q.E.Val.B) != "one" {
		t.Errorf("the other value is %s", q.E.Val.B)
	}
	want[0].Used = 5
	has(t, "Query", x, want, 0)
}

// The values of one result don't lie in one another's capacity.
func TestResultsApart(t *testing.T) {
	x := tableOf(t, roomOf(20, 999))
	var want []api.Cell
	for i := range 20 {
		e := put(string(rune('a'+i)), 1, strings.Repeat("v", i))
		stores(t, x, e)
		want = append(want, cell(e, true, false, i+1))
	}
	l, dirty := x.Cells(), x.Dirty()
	for i := range want {
		before := slices.Clone(want)
		spoil(l[i].E.Val.B)
		spoil(dirty[i].Val.B)
		for j := i + 1; j < len(before); j++ {
			if !sameCell(l[j], before[j]) || !same(dirty[j], before[j].E) {
				t.Errorf("cell %d is seen in cell %d", i, j)
			}
		}
	}
	has(t, "spoilt values", x, want, 0)
}

// What is done to a table isn't seen in its copy, and the other way round.
func TestCopy(t *testing.T) {
	x, want := usual(t)
	c := x.Copy()
	has(t, "a copy", c, want, 0)
	spoilTable(x)
	has(t, "a copy of what was spoilt", c, want, 0)
	y, _ := usual(t)
	spoilTable(y.Copy())
	has(t, "what was copied", y, want, 0)
	for _, l := range [][]api.Cell{c.Cells(), y.Cells()} {
		spoilCells(l)
	}
	has(t, "a copy whose cells were spoilt", c, want, 0)
	for _, z := range []*cells.Table{c, y} {
		busy(t, z, put("d", 1, strings.Repeat("v", 99)))
		stores(t, z, put("d", 1, "v"))
		has(t, "a copy goes on", z, []api.Cell{want[0], want[2], cell(put("d", 1, "v"), true, false, 4)}, 1)
		busy(t, z, put("e", 1, ""))
	}
}

// A copy has the room, the buckets and the uses of what was copied.
func TestCopyGoesOn(t *testing.T) {
	x := tableOf(t, api.Room{Cells: 2, Bytes: 9, Buckets: 2})
	stores(t, x, put("a", 1, "12"), put("b", 1, "34"))
	x.Forget()
	cleans(t, x, "a", "b")
	x.Query("a")
	c := x.Copy()
	for _, y := range []*cells.Table{x, c} {
		stores(t, y, put("c", 1, "56"))
		want := []int{2, 2}
		want[bucketOf("b", 2)]++
		has(t, "a copy goes on", y, []api.Cell{cell(put("a", 1, "12"), false, true, 3), cell(put("c", 1, "56"), false, false, 4)}, want...)
		answers(t, "Store", y.Store(put("d", 1, "12345678")), api.ErrBusy)
	}
}

// A table doesn't know of another one of the same room.
func TestTablesAreIndependent(t *testing.T) {
	x, want := usual(t)
	y, _ := usual(t)
	spoilTable(y)
	has(t, "another one", x, want, 0)
	z := tableOf(t, roomOf(3, 99))
	has(t, "a new one", z, nil, 0)
}

// The same calls of the same table answer the same, in whatever order a map gives its
// cells.
func TestAnswersAreRepeated(t *testing.T) {
	made := func() *cells.Table {
		x := tableOf(t, api.Room{Cells: 40, Bytes: 400, Buckets: 4})
		d := dice(5)
		for range 300 {
			x, _ = someAct(&d).do(x)
			key := string(rune('A' + d.below(50)))
			x.Store(put(key, d.below(9)+1, strings.Repeat("v", d.below(9))))
			x.Clean(key, tag(9, 0, 0))
		}
		return x
	}
	x := made()
	for range 20 {
		has(t, "again", made(), x.Cells(), x.Tokens()...)
	}
	if n, _ := x.Size(); n < 20 {
		t.Errorf("only %d cells", n)
	}
}

// Keys are ordered by their bytes, whatever order they came in.
func TestSorted(t *testing.T) {
	keys := []string{"b", "a", "ab", "\xff", "\x00", "a\x00", "B", "ba", "\xc3\xa4", "z"}
	x := tableOf(t, roomOf(10, 99))
	for _, key := range keys {
		stores(t, x, gone(key, 1))
	}
	slices.Sort(keys)
	for i, e := range x.Dirty() {
		if e.Key != keys[i] || x.Cells()[i].E.Key != keys[i] {
			t.Errorf("entry %d is that of %q", i, e.Key)
		}
	}
	if n, _ := x.Size(); n != len(keys) {
		t.Errorf("%d cells", n)
	}
}
