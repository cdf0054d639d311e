package tags_test

import (
	"bytes"
	"math"
	"strings"
	"testing"

	"icehouse/api"
	"icehouse/tags"
)

func none() api.Val { return api.Val{} }

func val(s string) api.Val { return api.Val{Has: true, B: []byte(s)} }

func entry(key string, t api.Tag, v api.Val) api.Entry {
	return api.Entry{Key: key, Tag: t, Val: v}
}

func long(n int) string { return strings.Repeat("x", n) }

// spoil overwrites a slice up to its capacity.
func spoil(b []byte) {
	b = b[:cap(b)]
	for i := range b {
		b[i] = 0xee
	}
}

// alike does not call the package, and tells apart what Same does not.
func alike(a, b api.Entry) bool {
	return a.Key == b.Key && a.Tag == b.Tag && a.Val.Has == b.Val.Has && bytes.Equal(a.Val.B, b.Val.B)
}

func isZero(e api.Entry) bool {
	return alike(e, api.Entry{})
}

// rightEntries: entries that may be, each one unlike the others.
func rightEntries() []api.Entry {
	return []api.Entry{
		entry("k", tag(0, 0, 0), none()),
		entry("k", tag(1, 0, 0), none()),
		entry("k", tag(1, 0, 0), val("")),
		entry("k", tag(1, 0, 0), val("v")),
		entry("j", tag(1, 0, 0), val("v")),
		entry("k", tag(5, 2, 1), val("xy")),
		entry("k", tag(5, 1, 2), val("xy")),
		entry("k", tag(255, 256, 65535), none()),
		entry("k", tag(api.MaxSeq, api.MaxID, api.MaxID), val("z")),
		entry("\x00", tag(3, 0, 0), val("\x00")),
		entry("\x00\x00", tag(3, 0, 0), val("\x00\xff\x80")),
		entry("\xff\xfe", tag(3, 1, 0), val("\xc3")), // bytes, not letters
		entry(long(api.MaxKey), tag(0, 0, 0), none()),
		entry(long(api.MaxKey), tag(7, 8, 9), val(long(api.MaxVal))),
		entry(long(api.MaxKey-1), tag(7, 8, 9), val(long(api.MaxVal-1))),
		entry("k", tag(9, 9, 9), val(long(255))),
		entry("k", tag(9, 9, 9), val(long(256))),
	}
}

// wrongEntries: entries that may not be, each for one reason.
func wrongEntries() []api.Entry {
	return []api.Entry{
		entry("", tag(0, 0, 0), none()),
		entry("", tag(1, 0, 0), val("v")),
		entry(long(api.MaxKey+1), tag(1, 0, 0), val("v")),
		entry(long(api.MaxKey+1), tag(0, 0, 0), none()),
		entry(long(api.MaxBytes), tag(1, 0, 0), none()),
		entry("k", tag(1, 0, 0), val(long(api.MaxVal+1))),
		entry("k", tag(1, 0, 0), val(long(api.MaxField))),
		entry("k", tag(1, 0, 0), val(long(api.MaxBytes))),
		entry("k", tag(1, 0, 0), api.Val{B: []byte{1}}),
		entry("k", tag(0, 0, 0), api.Val{B: []byte{1}}),
		entry("k", tag(1, 0, 0), api.Val{B: []byte(long(api.MaxVal))}),
		entry("k", tag(0, 0, 0), val("")),
		entry("k", tag(0, 0, 0), val("v")),
		entry("k", tag(0, 1, 0), none()),
		entry("k", tag(0, 0, 1), none()),
		entry("k", tag(-1, 0, 0), val("v")),
		entry("k", tag(1, -1, 0), val("v")),
		entry("k", tag(1, 0, -1), val("v")),
		entry("k", tag(api.MaxSeq+1, 0, 0), val("v")),
		entry("k", tag(1, api.MaxID+1, 0), none()),
		entry("k", tag(1, 0, api.MaxID+1), none()),
		entry("k", tag(math.MinInt, 0, 0), none()),
		entry("k", tag(math.MaxInt, 0, 0), none()),
	}
}

func TestRight(t *testing.T) {
	for i, e := range rightEntries() {
		if got := tags.Right(e); got != api.OK {
			t.Errorf("entry %d that may be: error %d", i, got)
		}
	}
	for i, e := range wrongEntries() {
		if got := tags.Right(e); got != api.ErrArg {
			t.Errorf("entry %d that may not be: error %d", i, got)
		}
	}
}

// No bytes are no bytes, whether the slice is nil or empty.
func TestRightOfEmptySlices(t *testing.T) {
	for _, b := range [][]byte{nil, {}, make([]byte, 0, 8)} {
		if got := tags.Right(entry("k", tag(1, 0, 0), api.Val{B: b})); got != api.OK {
			t.Errorf("no value: error %d", got)
		}
		if got := tags.Right(entry("k", tag(0, 0, 0), api.Val{B: b})); got != api.OK {
			t.Errorf("nothing written: error %d", got)
		}
		if got := tags.Right(entry("k", tag(1, 0, 0), api.Val{Has: true, B: b})); got != api.OK {
			t.Errorf("an empty value: error %d", got)
		}
	}
}

func TestNewer(t *testing.T) {
	l := rising()
	for i, x := range l {
		for k, y := range l {
			a, b := entry("a", x, val("of a")), entry("b", y, val("of b"))
			want := a
			if k > i {
				want = b
			}
			if got := tags.Newer(a, b); !alike(got, want) {
				t.Errorf("Newer of %v and %v is that of %q", x, y, got.Key)
			}
		}
	}
}

// Newer looks at the tags alone: an entry that may not be is copied as it is.
func TestNewerOfAnyEntries(t *testing.T) {
	all := append(rightEntries(), wrongEntries()...)
	for _, a := range all {
		for _, b := range []api.Entry{{}, entry("k", tag(5, 1, 1), val("v")), entry("", tag(2, 0, 0), api.Val{B: []byte("w")})} {
			want := a
			if tags.Compare(a.Tag, b.Tag) < 0 {
				want = b
			}
			if got := tags.Newer(a, b); !alike(got, want) {
				t.Errorf("Newer of %v and %v has the tag %v", a.Tag, b.Tag, got.Tag)
			}
		}
	}
}

func TestSameVal(t *testing.T) {
	for _, c := range []struct {
		name string
		a, b api.Val
		want bool
	}{
		{"none", none(), none(), true},
		{"none, as an empty slice", api.Val{B: []byte{}}, none(), true},
		{"none, but bytes", api.Val{B: []byte("x")}, none(), true},
		{"none, but other bytes", api.Val{B: []byte("x")}, api.Val{B: []byte("yz")}, true},
		{"none and an empty one", none(), val(""), false},
		{"none and one", none(), val("x"), false},
		{"bytes without Has, and the same with it", api.Val{B: []byte("x")}, val("x"), false},
		{"empty", val(""), val(""), true},
		{"empty, as a nil slice", val(""), api.Val{Has: true}, true},
		{"the same", val("xy"), val("xy"), true},
		{"a byte differs", val("xy"), val("xz"), false},
		{"the first byte differs", val("xy"), val("zy"), false},
		{"one is longer", val("xy"), val("xyz"), false},
		{"one is empty", val(""), val("x"), false},
		{"a zero more", val("x"), val("x\x00"), false},
	} {
		if tags.SameVal(c.a, c.b) != c.want || tags.SameVal(c.b, c.a) != c.want {
			t.Errorf("%s: %v and %v", c.name, tags.SameVal(c.a, c.b), tags.SameVal(c.b, c.a))
		}
		x, y := entry("k", tag(1, 2, 3), c.a), entry("k", tag(1, 2, 3), c.b)
		if tags.Same(x, y) != c.want || tags.Same(y, x) != c.want {
			t.Errorf("%s: as entries %v and %v", c.name, tags.Same(x, y), tags.Same(y, x))
		}
	}
}

func TestSame(t *testing.T) {
	all := append(rightEntries(), wrongEntries()...)
	for i, a := range rightEntries() {
		for k, b := range rightEntries() {
			if got := tags.Same(a, b); got != (i == k) {
				t.Errorf("Same of %d and %d is %v", i, k, got)
			}
		}
	}
	for i, e := range all {
		if !tags.Same(e, e) {
			t.Errorf("entry %d is not the same as itself", i)
		}
	}
	e := entry("k", tag(4, 5, 6), val("v"))
	for name, other := range map[string]api.Entry{
		"key":            entry("j", tag(4, 5, 6), val("v")),
		"a longer key":   entry("kk", tag(4, 5, 6), val("v")),
		"Seq":            entry("k", tag(3, 5, 6), val("v")),
		"Who":            entry("k", tag(4, 6, 6), val("v")),
		"Op":             entry("k", tag(4, 5, 7), val("v")),
		"value":          entry("k", tag(4, 5, 6), val("w")),
		"no value":       entry("k", tag(4, 5, 6), none()),
		"an empty value": entry("k", tag(4, 5, 6), val("")),
	} {
		if tags.Same(e, other) || tags.Same(other, e) {
			t.Errorf("another one is the same: %s", name)
		}
	}
}

func TestCopy(t *testing.T) {
	for i, e := range append(rightEntries(), append(wrongEntries(), api.Entry{})...) {
		if got := tags.Copy(e); !alike(got, e) {
			t.Errorf("the copy of entry %d differs", i)
		}
	}
}

// A result is new memory: what is done to it is seen neither in an argument nor
// in another result.
func TestCopiesAreNewMemory(t *testing.T) {
	older := entry("k", tag(1, 0, 0), val("old"))
	newer := entry("k", tag(2, 0, 0), api.Val{Has: true, B: append(make([]byte, 0, 64), "new"...)})
	for name, c := range map[string]struct {
		copied func() api.Entry
		want   api.Entry
	}{
		"Copy":                        {func() api.Entry { return tags.Copy(newer) }, newer},
		"Newer, the first one":        {func() api.Entry { return tags.Newer(newer, older) }, newer},
		"Newer, the second one":       {func() api.Entry { return tags.Newer(older, newer) }, newer},
		"Newer, the first of equals":  {func() api.Entry { return tags.Newer(older, older) }, older},
		"Copy of bytes without Has":   {func() api.Entry { return tags.Copy(api.Entry{Val: api.Val{B: older.Val.B}}) }, api.Entry{Val: api.Val{B: older.Val.B}}},
		"Newer of what was just made": {func() api.Entry { return tags.Newer(tags.Copy(older), tags.Copy(newer)) }, newer},
	} {
		want := append([]byte{}, c.want.Val.B...)
		one, other := c.copied(), c.copied()
		spoil(one.Val.B)
		if !bytes.Equal(other.Val.B, want) || !bytes.Equal(c.copied().Val.B, want) {
			t.Errorf("%s: one result is seen elsewhere", name)
		}
		if string(older.Val.B) != "old" || string(newer.Val.B) != "new" || !bytes.Equal(newer.Val.B[:64][3:], make([]byte, 61)) {
			t.Errorf("%s: a result is seen in an argument", name)
		}
	}
	c := tags.Copy(newer)
	newer.Val.B[0] = 'N'
	if string(c.Val.B) != "new" {
		t.Error("an argument is seen in a copy")
	}
}

func TestSize(t *testing.T) {
	for _, c := range []struct {
		e    api.Entry
		want int
	}{
		{api.Entry{}, 0},
		{entry("k", tag(0, 0, 0), none()), 1},
		{entry("key", tag(api.MaxSeq, api.MaxID, api.MaxID), none()), 3},
		{entry("k", tag(1, 0, 0), val("")), 1},
		{entry("k", tag(5, 2, 1), val("xy")), 3},
		{entry("", tag(5, 2, 1), val("xy")), 2},
		{entry("é", tag(5, 2, 1), val("é")), 4},
		{entry("k", tag(5, 2, 1), api.Val{B: []byte("xyz")}), 4},
		{entry(long(api.MaxKey), tag(5, 2, 1), val(long(api.MaxVal))), 60250},
	} {
		if got := tags.Size(c.e); got != c.want {
			t.Errorf("Size of %d and %d bytes is %d", len(c.e.Key), len(c.e.Val.B), got)
		}
	}
}
