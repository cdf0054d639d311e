package cells_test

import (
	"bytes"
	"cmp"
	"encoding/binary"
	"hash/fnv"
	"slices"
	"strings"
	"testing"

	"icehouse/api"
	"icehouse/cells"
)

func tag(seq, who, op int) api.Tag {
	return api.Tag{Seq: seq, Who: who, Op: op}
}

// put and gone: entries with a value and without one.
func put(key string, seq int, v string) api.Entry {
	return api.Entry{Key: key, Tag: tag(seq, 1, 0), Val: api.Val{Has: true, B: []byte(v)}}
}

func gone(key string, seq int) api.Entry {
	return api.Entry{Key: key, Tag: tag(seq, 1, 0)}
}

func unwritten(key string) api.Entry {
	return api.Entry{Key: key}
}

func cell(e api.Entry, whole, clean bool, used int) api.Cell {
	return api.Cell{E: e, Whole: whole, Clean: clean, Used: used}
}

func same(a, b api.Entry) bool {
	return a.Key == b.Key && a.Tag == b.Tag && a.Val.Has == b.Val.Has && bytes.Equal(a.Val.B, b.Val.B)
}

func sameCell(a, b api.Cell) bool {
	return same(a.E, b.E) && a.Whole == b.Whole && a.Clean == b.Clean && a.Used == b.Used
}

func sameReply(a, b api.Reply) bool {
	return same(a.E, b.E) && a.Whole == b.Whole && a.Token == b.Token
}

func alike(a, b []api.Entry) bool {
	return slices.EqualFunc(a, b, same)
}

func order(a, b api.Tag) int {
	return cmp.Or(cmp.Compare(a.Seq, b.Seq), cmp.Compare(a.Who, b.Who), cmp.Compare(a.Op, b.Op))
}

// bucketOf: by the words of layer 4.
func bucketOf(key string, n int) int {
	f := fnv.New64a()
	f.Write([]byte(key))
	h := f.Sum64()
	for _, factor := range []uint64{0xff51afd7ed558ccd, 0xc4ceb9fe1a85ec53} {
		h = (h ^ h>>33) * factor
	}
	return int((h ^ h>>33) % uint64(n))
}

// roomOf: one bucket, and nothing was evicted.
func roomOf(n, size int) api.Room {
	return api.Room{Cells: n, Bytes: size, Buckets: 1, Fresh: true}
}

func tableOf(t *testing.T, r api.Room) *cells.Table {
	t.Helper()
	x, e := cells.New(r)
	if x == nil || e != api.OK {
		t.Fatalf("New(%v): error %d", r, e)
	}
	return x
}

// filled returns a table of one bucket in which all of l were stored.
func filled(t *testing.T, n, size int, l ...api.Entry) *cells.Table {
	t.Helper()
	x := tableOf(t, roomOf(n, size))
	stores(t, x, l...)
	return x
}

func stores(t *testing.T, x *cells.Table, l ...api.Entry) {
	t.Helper()
	for _, e := range l {
		answers(t, "Store of "+e.Key, x.Store(e), api.OK)
	}
}

func cleans(t *testing.T, x *cells.Table, keys ...string) {
	t.Helper()
	for _, key := range keys {
		if !x.Clean(key, tag(api.MaxSeq, 0, 0)) {
			t.Errorf("%s is not made clean", key)
		}
	}
}

func fills(t *testing.T, x *cells.Table, e api.Entry, token int) {
	t.Helper()
	if ok, err := x.Fill(e, token); !ok || err != api.OK {
		t.Errorf("Fill of %s with %d: %v, error %d", e.Key, token, ok, err)
	}
}

func answers(t *testing.T, name string, got, want api.Errno) {
	t.Helper()
	if got != want {
		t.Errorf("%s: error %d, not %d", name, got, want)
	}
}

// dirtyOf: the entries of those cells that are not clean.
func dirtyOf(l []api.Cell) []api.Entry {
	var out []api.Entry
	for _, c := range l {
		if !c.Clean {
			out = append(out, c.E)
		}
	}
	return out
}

func sizeOf(l []api.Cell) int {
	n := 0
	for _, c := range l {
		n += len(c.E.Key) + len(c.E.Val.B)
	}
	return n
}

// has holds all that a table tells of itself against cells, sorted by key, and tokens.
func has(t *testing.T, name string, x *cells.Table, l []api.Cell, tokens ...int) {
	t.Helper()
	if got := x.Cells(); !slices.EqualFunc(got, l, sameCell) {
		t.Errorf("%s: cells %v, not %v", name, got, l)
	}
	if got := x.Dirty(); !alike(got, dirtyOf(l)) {
		t.Errorf("%s: dirty are %v", name, got)
	}
	if got := x.Tokens(); !slices.Equal(got, tokens) {
		t.Errorf("%s: tokens %v, not %v", name, got, tokens)
	}
	if n, size := x.Size(); n != len(l) || size != sizeOf(l) {
		t.Errorf("%s: %d cells of size %d", name, n, size)
	}
}

func tells(t *testing.T, x *cells.Table, key string, want api.Reply) {
	t.Helper()
	if got, e := x.Query(key); e != api.OK || !sameReply(got, want) {
		t.Errorf("Query of %s: %v, error %d, not %v", key, got, e, want)
	}
}

func TestNew(t *testing.T) {
	for _, r := range []api.Room{
		{Cells: 1, Bytes: 1, Buckets: 1}, {Cells: 1, Bytes: 1, Buckets: 1, Fresh: true},
		{Cells: 4096, Bytes: 1, Buckets: 2}, {Cells: 1, Bytes: 1 << 22, Buckets: 3, Fresh: true},
		{Cells: 7, Bytes: 9, Buckets: 256}, {Cells: 4096, Bytes: 1 << 22, Buckets: 256, Fresh: true},
	} {
		x := tableOf(t, r)
		token := 1
		if r.Fresh {
			token = 0
		}
		has(t, "New", x, nil, slices.Repeat([]int{token}, r.Buckets)...)
		tells(t, x, "k", api.Reply{E: unwritten("k"), Whole: r.Fresh, Token: token})
	}
}

func TestNewOfWrongRooms(t *testing.T) {
	const least, most = -1 << 63, 1<<63 - 1
	for _, fresh := range []bool{false, true} {
		for _, n := range []int{0, -1, least, most} {
			refused(t, api.Room{Cells: n, Bytes: 9, Buckets: 2, Fresh: fresh})
			refused(t, api.Room{Cells: 2, Bytes: n, Buckets: 2, Fresh: fresh})
			refused(t, api.Room{Cells: 2, Bytes: 9, Buckets: n, Fresh: fresh})
			refused(t, api.Room{Cells: n, Bytes: n, Buckets: n, Fresh: fresh})
		}
		refused(t, api.Room{Fresh: fresh})
		refused(t, api.Room{Cells: 4097, Bytes: 9, Buckets: 2, Fresh: fresh})
		refused(t, api.Room{Cells: 2, Bytes: 1<<22 + 1, Buckets: 2, Fresh: fresh})
		refused(t, api.Room{Cells: 2, Bytes: 9, Buckets: 257, Fresh: fresh})
	}
}

func refused(t *testing.T, r api.Room) {
	t.Helper()
	if x, e := cells.New(r); x != nil || e != api.ErrArg {
		t.Errorf("New(%v) = %v, error %d", r, x, e)
	}
}

// The example of the chapter, and the seventh one of the whole.
func TestOneCell(t *testing.T) {
	x := filled(t, 1, 9, put("k", 1, "x"))
	answers(t, "Store of j", x.Store(put("j", 1, "y")), api.ErrBusy)
	has(t, "a table that is full", x, []api.Cell{cell(put("k", 1, "x"), true, false, 1)}, 0)
	cleans(t, x, "k")
	stores(t, x, put("j", 1, "y"))
	has(t, "k is evicted", x, []api.Cell{cell(put("j", 1, "y"), true, false, 2)}, 1)
	tells(t, x, "k", api.Reply{E: unwritten("k"), Token: 1})
}

func TestQuery(t *testing.T) {
	a, b := put("a", 3, "one"), gone("b", 2)
	x := filled(t, 3, 99, a, b)
	tells(t, x, "a", api.Reply{E: a, Whole: true})
	tells(t, x, "b", api.Reply{E: b, Whole: true})
	tells(t, x, "c", api.Reply{E: unwritten("c"), Whole: true})
	tells(t, x, "a", api.Reply{E: a, Whole: true})
	has(t, "three uses more", x, []api.Cell{cell(a, true, false, 5), cell(b, true, false, 4)}, 0)
	x.Forget()
	tells(t, x, "a", api.Reply{E: a, Token: 1})
	tells(t, x, "c", api.Reply{E: unwritten("c"), Token: 1})
	fills(t, x, unwritten("d"), 1)
	tells(t, x, "d", api.Reply{E: unwritten("d"), Whole: true, Token: 1})
	has(t, "one cell more", x, []api.Cell{cell(a, false, false, 6), cell(b, false, false, 4), cell(unwritten("d"), true, true, 8)}, 1)
}

// Keys of 1 to MaxKey bytes, whatever bytes these are.
func TestKeys(t *testing.T) {
	for _, key := range []string{"k", "\x00", "\xff\xfe", "", strings.Repeat("k", 249), strings.Repeat("k", 250), strings.Repeat("k", 251), strings.Repeat("k", 70000)} {
		x := tableOf(t, roomOf(1, 400))
		if key == "" || len(key) > 250 {
			got, e := x.Query(key)
			if e != api.ErrArg || !sameReply(got, api.Reply{}) {
				t.Errorf("Query of %d bytes: %v, error %d", len(key), got, e)
			}
			answers(t, "Store", x.Store(put(key, 1, "")), api.ErrArg)
			has(t, "no key", x, nil, 0)
			continue
		}
		tells(t, x, key, api.Reply{E: unwritten(key), Whole: true})
		stores(t, x, put(key, 1, "v"))
		tells(t, x, key, api.Reply{E: put(key, 1, "v"), Whole: true})
		has(t, "a key", x, []api.Cell{cell(put(key, 1, "v"), true, false, 2)}, 0)
	}
}

// wrongs: entries that may not be.
func wrongs() []api.Entry {
	return []api.Entry{
		{}, put("", 1, "v"), put(strings.Repeat("k", 251), 1, "v"), put("a", -1, "v"), put("a", 1<<40, "v"), put("a", 0, "v"), gone("a", 0),
		{Key: "a", Tag: tag(1, -1, 0)}, {Key: "a", Tag: tag(1, 1<<20, 0)}, {Key: "a", Tag: tag(1, 0, -1)}, {Key: "a", Tag: tag(1, 0, 1<<20)},
		{Key: "a", Tag: tag(0, 0, 1)}, {Key: "a", Val: api.Val{Has: true}}, {Key: "a", Tag: tag(1, 0, 0), Val: api.Val{B: []byte("v")}},
		put("a", 9, strings.Repeat("v", 60001)),
	}
}

func TestWrongEntries(t *testing.T) {
	x := filled(t, 1, 99, put("a", 1, "v"))
	want := []api.Cell{cell(put("a", 1, "v"), true, false, 1)}
	for _, e := range wrongs() {
		answers(t, "Store", x.Store(e), api.ErrArg)
		for _, token := range []int{0, 1, -1} {
			if ok, err := x.Fill(e, token); ok || err != api.ErrArg {
				t.Errorf("Fill of %v with %d: %v, error %d", e, token, ok, err)
			}
		}
		has(t, "after a wrong entry", x, want, 0)
	}
	answers(t, "Store of what wasn't written", x.Store(unwritten("a")), api.ErrArg)
	has(t, "after an unwritten one", x, want, 0)
}

// Without a cell an entry is whole if nothing was evicted; with one, as that was.
func TestStore(t *testing.T) {
	x := filled(t, 9, 99, put("a", 2, "xy"), put("a", 1, "longer"), gone("a", 2))
	has(t, "what isn't newer", x, []api.Cell{cell(put("a", 2, "xy"), true, false, 3)}, 0)
	cleans(t, x, "a")
	stores(t, x, put("a", 2, "same tag"))
	has(t, "the same tag", x, []api.Cell{cell(put("a", 2, "xy"), true, true, 4)}, 0)
	stores(t, x, gone("a", 3))
	has(t, "a newer one", x, []api.Cell{cell(gone("a", 3), true, false, 5)}, 0)
	x.Forget()
	stores(t, x, put("a", 4, "w"), put("b", 1, ""))
	has(t, "after Forget", x, []api.Cell{cell(put("a", 4, "w"), false, false, 6), cell(put("b", 1, ""), false, false, 7)}, 1)
	stores(t, x, put("a", 4, "old"), put("b", 1, "old"))
	has(t, "old ones after Forget", x, []api.Cell{cell(put("a", 4, "w"), false, false, 8), cell(put("b", 1, ""), false, false, 9)}, 1)
}

// Tags are compared by all their numbers.
func TestStoreByTags(t *testing.T) {
	l := []api.Tag{tag(1, 0, 0), tag(1, 0, 9), tag(1, 1, 0), tag(1, 1, 2), tag(2, 0, 0), tag(1<<40-1, 1<<20-1, 1<<20-1)}
	for i, before := range l {
		for j, after := range l {
			x := filled(t, 1, 9, api.Entry{Key: "k", Tag: before}, api.Entry{Key: "k", Tag: after})
			has(t, "two tags", x, []api.Cell{cell(api.Entry{Key: "k", Tag: l[max(i, j)]}, true, false, 2)}, 0)
			if ok := x.Clean("k", after); ok != (j >= i) {
				t.Errorf("Clean of %v with %v: %v", before, after, ok)
			}
		}
	}
}

func TestFill(t *testing.T) {
	x := tableOf(t, api.Room{Cells: 9, Bytes: 99, Buckets: 1})
	stores(t, x, put("a", 2, "xy"), put("b", 2, "z"))
	fills(t, x, put("a", 1, "older"), 1)
	has(t, "an older one", x, []api.Cell{cell(put("a", 2, "xy"), true, false, 3), cell(put("b", 2, "z"), false, false, 2)}, 1)
	fills(t, x, unwritten("b"), 1)
	has(t, "an unwritten one", x, []api.Cell{cell(put("a", 2, "xy"), true, false, 3), cell(put("b", 2, "z"), true, false, 4)}, 1)
	fills(t, x, put("a", 2, "same tag"), 1)
	fills(t, x, put("b", 3, "newer"), 1)
	fills(t, x, gone("c", 1), 1)
	fills(t, x, unwritten("d"), 1)
	want := []api.Cell{
		cell(put("a", 2, "same tag"), true, true, 5), cell(put("b", 3, "newer"), true, true, 6),
		cell(gone("c", 1), true, true, 7), cell(unwritten("d"), true, true, 8),
	}
	has(t, "newer ones", x, want, 1)
	x.Forget()
	fills(t, x, put("b", 1, "older"), 2)
	want[0].Whole, want[2].Whole, want[3].Whole, want[1].Used = false, false, false, 9
	has(t, "an older one of a clean cell", x, want, 2)
}

// With another token than that of its bucket nothing is filled.
func TestFillWithOtherTokens(t *testing.T) {
	x := tableOf(t, api.Room{Cells: 2, Bytes: 99, Buckets: 1})
	stores(t, x, put("a", 2, "v"))
	x.Forget()
	for _, token := range []int{0, 1, 3, -1, -2, 1 << 62} {
		for _, e := range []api.Entry{put("a", 1, ""), put("a", 2, ""), put("a", 3, ""), put("b", 1, ""), unwritten("c"), put("b", 1, strings.Repeat("v", 100))} {
			if ok, err := x.Fill(e, token); ok || err != api.OK {
				t.Errorf("Fill of %s with %d: %v, error %d", e.Key, token, ok, err)
			}
		}
	}
	has(t, "wrong tokens", x, []api.Cell{cell(put("a", 2, "v"), false, false, 1)}, 2)
}

func TestClean(t *testing.T) {
	for _, c := range []struct {
		key  string
		tag  api.Tag
		want bool
	}{
		{"k", tag(5, 2, 3), true}, {"k", tag(5, 2, 4), true}, {"k", tag(5, 3, 0), true}, {"k", tag(6, 0, 0), true}, {"k", tag(1<<62, -1, -1), true},
		{"k", tag(5, 2, 2), false}, {"k", tag(5, 1, 9), false}, {"k", tag(4, 9, 9), false}, {"k", api.Tag{}, false}, {"k", tag(-1, 0, 0), false},
		{"j", tag(5, 2, 3), false}, {"", tag(9, 9, 9), false}, {"kk", tag(9, 9, 9), false}, {strings.Repeat("k", 300), tag(9, 9, 9), false},
	} {
		e := api.Entry{Key: "k", Tag: tag(5, 2, 3)}
		x := filled(t, 1, 9, e)
		for range 2 {
			if got := x.Clean(c.key, c.tag); got != c.want {
				t.Errorf("Clean of %s with %v: %v", c.key, c.tag, got)
			}
			has(t, "Clean", x, []api.Cell{cell(e, true, c.want, 1)}, 0)
		}
	}
}

// A cell that is clean stays so, whatever Clean is told later.
func TestCleanAgain(t *testing.T) {
	x := filled(t, 1, 9, put("k", 5, ""))
	cleans(t, x, "k")
	if x.Clean("k", tag(4, 0, 0)) {
		t.Error("Clean with an older tag")
	}
	has(t, "Clean with an older tag", x, []api.Cell{cell(put("k", 5, ""), true, true, 1)}, 0)
}

// What wasn't written has a tag that no right one is less than.
func TestCleanOfUnwritten(t *testing.T) {
	x := tableOf(t, roomOf(1, 9))
	fills(t, x, unwritten("k"), 0)
	if !x.Clean("k", api.Tag{}) || x.Clean("k", tag(-1, 0, 0)) || x.Clean("k", tag(0, 0, -1)) {
		t.Error("Clean of what wasn't written")
	}
}

func TestEvict(t *testing.T) {
	a, b := put("a", 1, "v"), put("b", 1, "w")
	x := filled(t, 3, 99, a, b)
	for _, key := range []string{"a", "b", "c", "", strings.Repeat("k", 300)} {
		if x.Evict(key) {
			t.Errorf("%q is evicted", key)
		}
	}
	has(t, "nothing is clean", x, []api.Cell{cell(a, true, false, 1), cell(b, true, false, 2)}, 0)
	cleans(t, x, "b")
	if x.Evict("a") || x.Evict("c") || !x.Evict("b") || x.Evict("b") {
		t.Error("Evict")
	}
	has(t, "b is evicted", x, []api.Cell{cell(a, true, false, 1)}, 1)
	tells(t, x, "b", api.Reply{E: unwritten("b"), Token: 1})
	cleans(t, x, "a")
	if !x.Evict("a") || x.Evict("a") {
		t.Error("Evict of a")
	}
	has(t, "both are evicted", x, nil, 2)
}

func TestForget(t *testing.T) {
	x := tableOf(t, api.Room{Cells: 3, Bytes: 99, Buckets: 3, Fresh: true})
	x.Forget()
	has(t, "Forget of nothing", x, nil, 1, 1, 1)
	stores(t, x, put("a", 1, "v"))
	fills(t, x, put("b", 1, "w"), 1)
	has(t, "before Forget", x, []api.Cell{cell(put("a", 1, "v"), false, false, 1), cell(put("b", 1, "w"), true, true, 2)}, 1, 1, 1)
	for n := range 3 {
		x.Forget()
		has(t, "Forget", x, []api.Cell{cell(put("a", 1, "v"), false, false, 1), cell(put("b", 1, "w"), false, true, 2)}, n+2, n+2, n+2)
	}
}

// Each bucket has a token of its own, and each key its bucket.
func TestBuckets(t *testing.T) {
	for _, n := range []int{1, 2, 3, 7, 64, 255, 256} {
		x := tableOf(t, api.Room{Cells: 1, Bytes: 9, Buckets: n, Fresh: true})
		want := make([]int, n)
		for i := range 600 {
			key := string(binary.BigEndian.AppendUint16([]byte("k"), uint16(i)))
			bucket := bucketOf(key, n)
			tells(t, x, key, api.Reply{E: unwritten(key), Whole: want[bucket] == 0, Token: want[bucket]})
			stores(t, x, put(key, 1, ""))
			tells(t, x, key, api.Reply{E: put(key, 1, ""), Whole: want[bucket] == 0, Token: want[bucket]})
			cleans(t, x, key)
			if !x.Evict(key) {
				t.Errorf("%q is not evicted", key)
			}
			want[bucket]++
			tells(t, x, key, api.Reply{E: unwritten(key), Token: want[bucket]})
			if got := x.Tokens(); !slices.Equal(got, want) {
				t.Fatalf("%d buckets, %q: tokens %v, not %v", n, key, got, want)
			}
		}
	}
}

func TestNilTable(t *testing.T) {
	var x *cells.Table
	for _, key := range []string{"k", ""} {
		if got, e := x.Query(key); e != api.ErrNil || !sameReply(got, api.Reply{}) {
			t.Errorf("Query: %v, error %d", got, e)
		}
		answers(t, "Store", x.Store(put(key, 1, "")), api.ErrNil)
		if ok, e := x.Fill(put(key, 1, ""), 0); ok || e != api.ErrNil {
			t.Errorf("Fill: %v, error %d", ok, e)
		}
		if x.Clean(key, tag(1, 1, 1)) || x.Evict(key) {
			t.Error("Clean or Evict")
		}
	}
	x.Forget()
	has(t, "nil", x, nil)
	if x.Copy() != nil {
		t.Error("Copy")
	}
}

// A table that New has not made has no buckets, and no room.
func TestZeroTable(t *testing.T) {
	var zero cells.Table
	for _, x := range []*cells.Table{&zero, zero.Copy()} {
		if got, e := x.Query("k"); e != api.ErrArg || !sameReply(got, api.Reply{}) {
			t.Errorf("Query: %v, error %d", got, e)
		}
		answers(t, "Store", x.Store(put("k", 1, "")), api.ErrArg)
		for token := range 2 {
			if ok, e := x.Fill(put("k", 1, ""), token); ok || e != api.ErrArg {
				t.Errorf("Fill: %v, error %d", ok, e)
			}
		}
		if x.Clean("k", tag(1, 1, 1)) || x.Evict("k") {
			t.Error("Clean or Evict")
		}
		x.Forget()
		has(t, "zero", x, nil)
	}
}
