package pack_test

import (
	"bytes"
	"math"
	"slices"
	"testing"

	"icehouse/api"
	"icehouse/pack"
)

var minusOne = []byte{8, 255, 255, 255, 255, 255, 255, 255, 255}

// numberCases: for each count of bytes the least and the greatest number.
var numberCases = []struct {
	n    int
	want []byte
}{
	{0, []byte{0}},
	{1, []byte{1, 1}},
	{0x7f, []byte{1, 0x7f}},
	{0x80, []byte{1, 0x80}},
	{0xff, []byte{1, 0xff}},
	{0x100, []byte{2, 1, 0}},
	{300, []byte{2, 0x01, 0x2c}},
	{0xffff, []byte{2, 0xff, 0xff}},
	{0x10000, []byte{3, 1, 0, 0}},
	{0xffffff, []byte{3, 0xff, 0xff, 0xff}},
	{0x1000000, []byte{4, 1, 0, 0, 0}},
	{0xffffffff, []byte{4, 0xff, 0xff, 0xff, 0xff}},
	{0x100000000, []byte{5, 1, 0, 0, 0, 0}},
	{0xffffffffff, []byte{5, 0xff, 0xff, 0xff, 0xff, 0xff}},
	{0x10000000000, []byte{6, 1, 0, 0, 0, 0, 0}},
	{0xffffffffffff, []byte{6, 0xff, 0xff, 0xff, 0xff, 0xff, 0xff}},
	{0x1000000000000, []byte{7, 1, 0, 0, 0, 0, 0, 0}},
	{0xffffffffffffff, []byte{7, 0xff, 0xff, 0xff, 0xff, 0xff, 0xff, 0xff}},
	{0x100000000000000, []byte{8, 1, 0, 0, 0, 0, 0, 0, 0}},
	{0x0123456789abcdef, []byte{8, 0x01, 0x23, 0x45, 0x67, 0x89, 0xab, 0xcd, 0xef}},
	{0x00a000b000c000d0, []byte{7, 0xa0, 0x00, 0xb0, 0x00, 0xc0, 0x00, 0xd0}},
	{math.MaxInt, []byte{8, 0x7f, 0xff, 0xff, 0xff, 0xff, 0xff, 0xff, 0xff}},
	{math.MinInt, []byte{8, 0x80, 0, 0, 0, 0, 0, 0, 0}},
	{-1, minusOne},
	{-256, []byte{8, 0xff, 0xff, 0xff, 0xff, 0xff, 0xff, 0xff, 0x00}},
}

// badNumbers: bytes that begin with no number, and the first error in them.
var badNumbers = []struct {
	b []byte
	e api.Errno
}{
	{nil, api.ErrShort},
	{[]byte{9}, api.ErrForm},
	{[]byte{9, 1, 2, 3, 4, 5, 6, 7, 8, 9}, api.ErrForm},
	{[]byte{255}, api.ErrForm},
	{[]byte{1}, api.ErrShort},
	{[]byte{2, 1}, api.ErrShort},
	{[]byte{2, 0}, api.ErrShort}, // that a byte is missing comes before the 00
	{[]byte{3, 1, 2}, api.ErrShort},
	{[]byte{4, 1, 2, 3}, api.ErrShort},
	{[]byte{5, 1, 2, 3, 4}, api.ErrShort},
	{[]byte{6, 1, 2, 3, 4, 5}, api.ErrShort},
	{[]byte{7, 1, 2, 3, 4, 5, 6}, api.ErrShort},
	{[]byte{8}, api.ErrShort},
	{[]byte{8, 0, 2, 3, 4, 5, 6, 7}, api.ErrShort},
	{[]byte{1, 0}, api.ErrForm},
	{[]byte{2, 0, 1}, api.ErrForm},
	{[]byte{3, 0, 255, 255}, api.ErrForm},
	{[]byte{8, 0, 2, 3, 4, 5, 6, 7, 8}, api.ErrForm},
	{[]byte{8, 0, 0, 0, 0, 0, 0, 0, 0}, api.ErrForm},
}

// numbers: the special ones, those around each power of two, and others that
// are spread over all bits.
func numbers() []int {
	var out []int
	for _, c := range numberCases {
		out = append(out, c.n)
	}
	for i := range 64 {
		p := int(uint64(1) << i)
		out = append(out, p-1, p, p+1, -p)
	}
	w := uint64(0)
	for i := range 2000 {
		w += 0x9e3779b97f4a7c15
		out = append(out, int(w), int(w>>(i%64)))
	}
	return out
}

// wordsOf returns all words of at most n of these letters.
func wordsOf(n int, letters ...byte) [][]byte {
	out := [][]byte{nil}
	for last := out; n > 0; n-- {
		var longer [][]byte
		for _, b := range last {
			for _, c := range letters {
				longer = append(longer, append(slices.Clone(b), c))
			}
		}
		out, last = append(out, longer...), longer
	}
	return out
}

func allBytes() []byte {
	out := make([]byte, 256)
	for i := range out {
		out[i] = byte(i)
	}
	return out
}

// anyBytes: all of two bytes, and longer ones of those that mean something.
func anyBytes() [][]byte {
	out := wordsOf(2, allBytes()...)
	return append(out, wordsOf(6, 0, 1, 2, 3, 8, 9, 255)...)
}

// spread fills n bytes with something that tells places apart.
func spread(n int) []byte {
	out := make([]byte, n)
	for i := range out {
		out[i] = byte(i*7 + i>>8)
	}
	return out
}

func mustRow(t *testing.T, b []byte) []byte {
	t.Helper()
	out, e := pack.Row(b)
	if e != api.OK {
		t.Fatalf("Row of %d bytes: error %d", len(b), e)
	}
	return out
}

// spoil overwrites a slice up to its capacity.
func spoil(b []byte) {
	b = b[:cap(b)]
	for i := range b {
		b[i] = 0xee
	}
}

func TestNum(t *testing.T) {
	for _, c := range numberCases {
		if got := pack.Num(c.n); !bytes.Equal(got, c.want) {
			t.Errorf("Num(%d) = %x", c.n, got)
		}
	}
}

func TestNumIsShortest(t *testing.T) {
	for _, n := range numbers() {
		b := pack.Num(n)
		if len(b) == 0 || len(b) != 1+int(b[0]) || b[0] > 8 || b[0] > 0 && b[1] == 0 {
			t.Errorf("Num(%d) = %x", n, b)
		}
	}
}

func TestNumIsReadBack(t *testing.T) {
	var all []byte
	for _, n := range numbers() {
		b := pack.Num(n)
		all = append(all, b...)
		r := pack.New(append(slices.Clone(b), 1, 2, 3))
		if got := r.Num(); got != n || r.Left() != 3 || r.Failed() {
			t.Errorf("%d is read as %d, %d bytes left, failed %v", n, got, r.Left(), r.Failed())
		}
		if got, e := pack.Nums(b); e != api.OK || !slices.Equal(got, []int{n}) {
			t.Errorf("Nums(%x) = %v, error %d", b, got, e)
		}
	}
	if got, e := pack.Nums(all); e != api.OK || !slices.Equal(got, numbers()) {
		t.Errorf("all numbers together: %d, error %d", len(got), e)
	}
}

func TestRow(t *testing.T) {
	for _, c := range []struct{ b, want []byte }{
		{nil, []byte{0}},
		{[]byte{}, []byte{0}},
		{[]byte{0x61}, []byte{1, 1, 0x61}},
		{[]byte("ab"), []byte{1, 2, 'a', 'b'}},
		{[]byte{0}, []byte{1, 1, 0}},
		{spread(255), append([]byte{1, 255}, spread(255)...)},
		{spread(256), append([]byte{2, 1, 0}, spread(256)...)},
		{spread(65535), append([]byte{2, 255, 255}, spread(65535)...)},
		{spread(api.MaxField), append([]byte{3, 1, 0, 0}, spread(api.MaxField)...)},
	} {
		before := slices.Clone(c.b)
		if got, e := pack.Row(c.b); e != api.OK || !bytes.Equal(got, c.want) {
			t.Errorf("Row of %d bytes: %d bytes, error %d", len(c.b), len(got), e)
		}
		if !bytes.Equal(c.b, before) {
			t.Errorf("Row changed its %d bytes", len(c.b))
		}
	}
}

func TestRowTooLong(t *testing.T) {
	for _, n := range []int{api.MaxField + 1, api.MaxField + 2, 2 * api.MaxField, api.MaxBytes} {
		if got, e := pack.Row(make([]byte, n)); e != api.ErrLong || len(got) != 0 {
			t.Errorf("Row of %d bytes: %d bytes, error %d", n, len(got), e)
		}
	}
}

func TestRowIsReadBack(t *testing.T) {
	for _, n := range []int{0, 1, 2, 255, 256, 257, 60000, 65535, api.MaxField} {
		b := append(mustRow(t, spread(n)), 9)
		r := pack.New(b)
		if got := r.Row(); !bytes.Equal(got, spread(n)) || r.Left() != 1 || r.Failed() {
			t.Errorf("a row of %d bytes is read as %d, %d left, failed %v", n, len(got), r.Left(), r.Failed())
		}
	}
}

func TestTruth(t *testing.T) {
	for _, c := range []struct {
		is   bool
		want byte
	}{{true, 1}, {false, 0}} {
		b := pack.Truth(c.is)
		if !bytes.Equal(b, []byte{c.want}) {
			t.Errorf("Truth(%v) = %x", c.is, b)
		}
		r := pack.New(b)
		if got := r.Truth(); got != c.is || r.Left() != 0 || r.End() != api.OK {
			t.Errorf("%v is read as %v, error %d", c.is, got, r.End())
		}
	}
}

func TestEncodingsAreNewMemory(t *testing.T) {
	arg := []byte{5, 6}
	for name, encode := range map[string]func() []byte{
		"Num(0)":       func() []byte { return pack.Num(0) },
		"Num(300)":     func() []byte { return pack.Num(300) },
		"Num(-1)":      func() []byte { return pack.Num(-1) },
		"Truth(true)":  func() []byte { return pack.Truth(true) },
		"Truth(false)": func() []byte { return pack.Truth(false) },
		"Row(nil)":     func() []byte { return mustRow(t, nil) },
		"Row":          func() []byte { return mustRow(t, arg) },
	} {
		a, b := encode(), encode()
		want := slices.Clone(a)
		spoil(a)
		if !bytes.Equal(b, want) || !bytes.Equal(encode(), want) {
			t.Errorf("%s: one result is seen in another one", name)
		}
	}
	if !bytes.Equal(arg, []byte{5, 6}) {
		t.Error("a result is seen in the argument")
	}
}

// asked reports whether a failed reader answers nothing, whatever it is asked.
func asked(r *pack.Reader) bool {
	return r.Num() == 0 && r.Below(math.MaxInt) == 0 && r.Below(1) == 0 && len(r.Row()) == 0 && !r.Truth()
}

// runFailing reads bad bytes that stand behind a field, and then asks again.
func runFailing(t *testing.T, name string, bad []byte, want api.Errno, read func(r *pack.Reader) bool) {
	t.Helper()
	r := pack.New(append([]byte{1, 5}, bad...))
	if r.Num() != 5 || r.Failed() {
		t.Fatalf("%s: the field before %x is not read", name, bad)
	}
	if !read(r) {
		t.Errorf("%s of %x answers something", name, bad)
	}
	for range 2 {
		if !r.Failed() || r.End() != want || r.Left() != len(bad) {
			t.Errorf("%s of %x: failed %v, error %d, %d bytes left", name, bad, r.Failed(), r.End(), r.Left())
		}
		if !asked(r) {
			t.Errorf("%s of %x: the failed reader answers something", name, bad)
		}
		r.Fail()
	}
}

func readsNoNum(r *pack.Reader) bool   { return r.Num() == 0 }
func readsNoRow(r *pack.Reader) bool   { return len(r.Row()) == 0 }
func readsNoTruth(r *pack.Reader) bool { return !r.Truth() }
func readsNoneBelow(n int) func(r *pack.Reader) bool {
	return func(r *pack.Reader) bool { return r.Below(n) == 0 }
}

func TestBadNumbers(t *testing.T) {
	for _, c := range badNumbers {
		runFailing(t, "Num", c.b, c.e, readsNoNum)
		for _, n := range []int{math.MaxInt, 256, 1, 0, -1, math.MinInt} {
			runFailing(t, "Below", c.b, c.e, readsNoneBelow(n))
		}
		runFailing(t, "Row", c.b, c.e, readsNoRow)
	}
}

func TestBelow(t *testing.T) {
	for _, c := range []struct{ value, n int }{
		{0, 1}, {0, 2}, {1, 2}, {5, 6}, {255, 256}, {256, 257}, {0, math.MaxInt}, {300, math.MaxInt}, {math.MaxInt - 1, math.MaxInt},
	} {
		r := pack.New(append(pack.Num(c.value), 1))
		if got := r.Below(c.n); got != c.value || r.Failed() || r.Left() != 1 {
			t.Errorf("Below(%d) of %d = %d, failed %v, %d left", c.n, c.value, got, r.Failed(), r.Left())
		}
	}
	for _, c := range []struct{ value, n int }{
		{1, 1}, {2, 1}, {6, 6}, {256, 256}, {math.MaxInt, 1}, {math.MaxInt, math.MaxInt},
		{-1, 1}, {-1, math.MaxInt}, {math.MinInt, 1}, {math.MinInt, math.MaxInt},
		{0, 0}, {1, 0}, {-1, 0}, {0, -1}, {-1, -1}, {-2, -1}, {-5, -3}, {0, math.MinInt}, {math.MinInt, math.MinInt}, {math.MaxInt, math.MinInt},
	} {
		runFailing(t, "Below", append(pack.Num(c.value), 1, 2), api.ErrForm, readsNoneBelow(c.n))
	}
}

func TestBadRows(t *testing.T) {
	long := append(pack.Num(api.MaxField+1), make([]byte, api.MaxField+1)...)
	most := append(pack.Num(api.MaxField), make([]byte, api.MaxField-1)...)
	for _, c := range []struct {
		b []byte
		e api.Errno
	}{
		{[]byte{1, 1}, api.ErrShort},
		{[]byte{1, 2, 'a'}, api.ErrShort},
		{[]byte{2, 1, 0, 1, 2, 3}, api.ErrShort},
		{pack.Num(api.MaxField), api.ErrShort},
		{most, api.ErrShort},
		{pack.Num(api.MaxField + 1), api.ErrForm}, // that it is too long comes before what is missing
		{long, api.ErrForm},
		{minusOne, api.ErrForm},
		{append(slices.Clone(minusOne), 1, 2, 3), api.ErrForm},
		{pack.Num(math.MinInt), api.ErrForm},
		{pack.Num(math.MaxInt), api.ErrForm},
		{pack.Num(math.MaxInt32), api.ErrForm},
	} {
		runFailing(t, "Row", c.b, c.e, readsNoRow)
	}
}

func TestBadTruths(t *testing.T) {
	runFailing(t, "Truth", nil, api.ErrShort, readsNoTruth)
	for c := 2; c < 256; c++ {
		runFailing(t, "Truth", []byte{byte(c)}, api.ErrForm, readsNoTruth)
		runFailing(t, "Truth", []byte{byte(c), 1}, api.ErrForm, readsNoTruth)
	}
}

func TestReaderInOrder(t *testing.T) {
	b := slices.Concat(pack.Num(-7), pack.Truth(true), mustRow(t, []byte("abc")), pack.Num(4), mustRow(t, nil), pack.Truth(false))
	r := pack.New(b)
	lefts := []int{r.Left()}
	step := func(ok bool, what string) {
		if !ok || r.Failed() {
			t.Errorf("%s is not read", what)
		}
		lefts = append(lefts, r.Left())
	}
	step(r.Num() == -7, "a number")
	step(r.Truth(), "a truth")
	step(bytes.Equal(r.Row(), []byte("abc")), "a row")
	step(r.Below(5) == 4, "a number below 5")
	step(len(r.Row()) == 0, "an empty row")
	if r.End() != api.ErrForm || r.Failed() {
		t.Errorf("a byte is left: error %d, failed %v", r.End(), r.Failed())
	}
	step(!r.Truth(), "the last truth")
	if r.End() != api.OK {
		t.Errorf("all is read: error %d", r.End())
	}
	if !slices.Equal(lefts, []int{19, 10, 9, 4, 2, 1, 0}) {
		t.Errorf("bytes left: %v", lefts)
	}
}

func TestNewCopies(t *testing.T) {
	b := slices.Concat(pack.Num(300), mustRow(t, []byte("abc")))
	before := slices.Clone(b)
	r := pack.New(b)
	for i := range b {
		b[i] = 9
	}
	if r.Num() != 300 || string(r.Row()) != "abc" || r.End() != api.OK {
		t.Errorf("the reader sees what became of its bytes: error %d", r.End())
	}
	copy(b, before)
	r = pack.New(b)
	r.Num()
	spoil(r.Row())
	if !bytes.Equal(b, before) {
		t.Error("a row is seen in the bytes it was read from")
	}
}

func TestRowsOfAReaderAreNewMemory(t *testing.T) {
	b := slices.Concat(mustRow(t, nil), mustRow(t, []byte("abc")), mustRow(t, nil), mustRow(t, []byte("de")), pack.Num(7))
	r := pack.New(b)
	for _, want := range []string{"", "abc", "", "de"} {
		row := r.Row()
		if string(row) != want || r.Failed() {
			t.Errorf("a row is %q, not %q", row, want)
		}
		spoil(row)
	}
	if r.Num() != 7 || r.End() != api.OK {
		t.Errorf("a row is seen in what follows it: error %d", r.End())
	}
}

// What a reader hands out is not its own copy: another reader may still read that.
func TestRowsAreNotTheReadersOwn(t *testing.T) {
	r := pack.New(mustRow(t, []byte("abc")))
	other := *r
	spoil(r.Row())
	if row := other.Row(); string(row) != "abc" {
		t.Errorf("a row is seen in its reader's copy: %q", row)
	}
}

func TestReadersAreIndependent(t *testing.T) {
	b := []byte{1, 5, 1, 6}
	x, y := pack.New(b), pack.New(b)
	x.Fail()
	if y.Failed() || y.Num() != 5 || x.Left() != 4 || y.Left() != 2 {
		t.Errorf("one reader is seen in another one: %d and %d left", x.Left(), y.Left())
	}
}

func TestEnd(t *testing.T) {
	for _, b := range [][]byte{nil, {}} {
		if r := pack.New(b); r == nil || r.Left() != 0 || r.Failed() || r.End() != api.OK {
			t.Errorf("a reader of nothing: error %d", r.End())
		}
	}
	r := pack.New([]byte{1, 5, 1, 6})
	for _, want := range []int{5, 6} {
		if r.End() != api.ErrForm || r.End() != api.ErrForm || r.Failed() {
			t.Errorf("bytes are left: error %d, failed %v", r.End(), r.Failed())
		}
		if got := r.Num(); got != want {
			t.Errorf("after End %d is read, not %d", got, want)
		}
	}
	if r.End() != api.OK || r.Failed() {
		t.Errorf("nothing is left: error %d", r.End())
	}
	if r.Truth() || r.End() != api.ErrShort || !r.Failed() || r.Left() != 0 {
		t.Errorf("behind the end: error %d", r.End())
	}
}

func TestFirstErrorStays(t *testing.T) {
	r := pack.New([]byte{1})
	if r.Num() != 0 || r.Truth() || r.End() != api.ErrShort || r.Left() != 1 {
		t.Errorf("a truth behind a missing byte: error %d, %d left", r.End(), r.Left())
	}
	r = pack.New([]byte{3, 1, 0})
	if r.Truth() || r.Num() != 0 || r.End() != api.ErrForm || r.Left() != 3 {
		t.Errorf("a missing byte behind a wrong truth: error %d, %d left", r.End(), r.Left())
	}
}

func TestFail(t *testing.T) {
	r := pack.New([]byte{1, 5, 1, 6})
	r.Num()
	r.Fail()
	r.Fail()
	if !r.Failed() || r.End() != api.ErrForm || r.Left() != 2 || !asked(r) || r.Left() != 2 {
		t.Errorf("failed %v, error %d, %d left", r.Failed(), r.End(), r.Left())
	}
	r = pack.New(nil)
	r.Fail()
	if !r.Failed() || r.End() != api.ErrForm || !asked(r) || r.End() != api.ErrForm {
		t.Errorf("at the end: failed %v, error %d", r.Failed(), r.End())
	}
	r = pack.New(nil)
	r.Num()
	r.Fail()
	if !r.Failed() || r.End() != api.ErrShort {
		t.Errorf("after an error: failed %v, error %d", r.Failed(), r.End())
	}
}

func TestNilReader(t *testing.T) {
	var r *pack.Reader
	for range 2 {
		if r.Num() != 0 || r.Below(5) != 0 || r.Below(-5) != 0 || len(r.Row()) != 0 || r.Truth() || r.Left() != 0 {
			t.Error("a nil reader answers something")
		}
		if !r.Failed() || r.End() != api.ErrNil {
			t.Errorf("a nil reader: failed %v, error %d", r.Failed(), r.End())
		}
		r.Fail()
	}
}

func TestNums(t *testing.T) {
	for _, c := range []struct {
		b    []byte
		want []int
	}{
		{nil, nil},
		{[]byte{}, nil},
		{[]byte{0}, []int{0}},
		{[]byte{0, 0, 0}, []int{0, 0, 0}},
		{[]byte{1, 1, 2, 1, 0, 0}, []int{1, 256, 0}},
		{slices.Concat(minusOne, []byte{1, 9}), []int{-1, 9}},
	} {
		before := slices.Clone(c.b)
		if got, e := pack.Nums(c.b); e != api.OK || !slices.Equal(got, c.want) {
			t.Errorf("Nums(%x) = %v, error %d", c.b, got, e)
		}
		if !bytes.Equal(c.b, before) {
			t.Errorf("Nums changed %x", before)
		}
	}
	for _, c := range badNumbers {
		if len(c.b) == 0 {
			continue
		}
		for _, before := range [][]byte{nil, {0}, {1, 5, 2, 1, 44}, minusOne} {
			b := slices.Concat(before, c.b)
			if got, e := pack.Nums(b); e != c.e || len(got) != 0 {
				t.Errorf("Nums(%x) = %v, error %d", b, got, e)
			}
		}
	}
	for _, c := range []struct {
		b []byte
		e api.Errno
	}{
		{[]byte{9, 1}, api.ErrForm},
		{[]byte{0, 1, 0, 1}, api.ErrForm},
		{[]byte{1, 0, 0, 2, 1}, api.ErrForm},
		{[]byte{0, 2, 1}, api.ErrShort},
	} {
		if got, e := pack.Nums(c.b); e != c.e || len(got) != 0 {
			t.Errorf("Nums(%x) = %v, error %d: another one is the first", c.b, got, e)
		}
	}
}

func TestRows(t *testing.T) {
	for _, want := range [][]string{
		nil, {""}, {"", ""}, {"a"}, {"a", "", "bc"}, {"", "\x00", "\xff\x00"},
		{string(spread(api.MaxField)), "x", string(spread(api.MaxField - 1)), string(spread(300))},
	} {
		var b []byte
		for _, s := range want {
			b = append(b, mustRow(t, []byte(s))...)
		}
		before := slices.Clone(b)
		got, e := pack.Rows(b)
		if e != api.OK || !slices.EqualFunc(got, want, func(b []byte, s string) bool { return string(b) == s }) {
			t.Errorf("%d rows are read as %d, error %d", len(want), len(got), e)
		}
		if !bytes.Equal(b, before) {
			t.Error("Rows changed its bytes")
		}
	}
	if got, e := pack.Rows([]byte{}); e != api.OK || len(got) != 0 {
		t.Errorf("no bytes: %d rows, error %d", len(got), e)
	}
}

func TestRowsOfWrongBytes(t *testing.T) {
	long := append(pack.Num(api.MaxField+1), make([]byte, api.MaxField+1)...)
	for _, c := range []struct {
		b []byte
		e api.Errno
	}{
		{[]byte{9}, api.ErrForm},
		{[]byte{1}, api.ErrShort},
		{[]byte{1, 0}, api.ErrForm},
		{[]byte{2, 0, 1, 'a'}, api.ErrForm},
		{[]byte{1, 1}, api.ErrShort},
		{[]byte{1, 2, 'a'}, api.ErrShort},
		{[]byte{3, 1, 0, 1}, api.ErrForm},
		{long, api.ErrForm},
		{minusOne, api.ErrForm},
		{pack.Num(api.MaxField), api.ErrShort},
	} {
		for _, before := range [][]byte{nil, {0}, {1, 1, 'a', 0}} {
			b := slices.Concat(before, c.b)
			if got, e := pack.Rows(b); e != c.e || len(got) != 0 {
				t.Errorf("%d rows, error %d, not %d", len(got), e, c.e)
			}
		}
	}
	if got, e := pack.Rows([]byte{9, 0, 1, 2}); e != api.ErrForm || len(got) != 0 {
		t.Errorf("%d rows, error %d: another one is the first", len(got), e)
	}
}

func TestListsAreNewMemory(t *testing.T) {
	b := slices.Concat(mustRow(t, nil), mustRow(t, []byte("abc")), mustRow(t, nil), mustRow(t, []byte("de")))
	before := slices.Clone(b)
	rows, _ := pack.Rows(b)
	again, _ := pack.Rows(b)
	for i, want := range []string{"", "abc", "", "de"} {
		if len(rows) != 4 || string(rows[i]) != want {
			t.Fatalf("a row is seen in another one: %q", rows)
		}
		spoil(rows[i])
	}
	if !bytes.Equal(b, before) || len(again) != 4 || string(again[1]) != "abc" || string(again[3]) != "de" {
		t.Error("a row is seen elsewhere")
	}
	nums, _ := pack.Nums([]byte{1, 4, 1, 5})
	other, _ := pack.Nums([]byte{1, 4, 1, 5})
	clear(nums[:cap(nums)])
	if !slices.Equal(other, []int{4, 5}) {
		t.Errorf("one list is seen in another one: %v", other)
	}
}

func joined[T any](l []T, encode func(T) []byte) []byte {
	var out []byte
	for _, x := range l {
		out = append(out, encode(x)...)
	}
	return out
}

// Any bytes are either decoded, and then they are the one encoding of what they
// say, or an error is reported.
func TestAnyBytes(t *testing.T) {
	for _, b := range anyBytes() {
		nums, e := pack.Nums(b)
		switch {
		case e == api.OK && !bytes.Equal(joined(nums, pack.Num), b):
			t.Errorf("Nums(%x) = %v, which has another encoding", b, nums)
		case e != api.OK && (e != api.ErrForm && e != api.ErrShort || len(nums) != 0):
			t.Errorf("Nums(%x) = %v, error %d", b, nums, e)
		}
		rows, e := pack.Rows(b)
		switch {
		case e == api.OK && !bytes.Equal(joined(rows, func(row []byte) []byte { return mustRow(t, row) }), b):
			t.Errorf("Rows(%x) = %x, which has another encoding", b, rows)
		case e != api.OK && (e != api.ErrForm && e != api.ErrShort || len(rows) != 0):
			t.Errorf("Rows(%x) = %x, error %d", b, rows, e)
		}
	}
}

// reads: each reads a field, and encodes what it read.
func reads() []func(r *pack.Reader) []byte {
	return []func(r *pack.Reader) []byte{
		func(r *pack.Reader) []byte { return pack.Num(r.Num()) },
		func(r *pack.Reader) []byte { return pack.Num(r.Below(300)) },
		func(r *pack.Reader) []byte { return pack.Truth(r.Truth()) },
		func(r *pack.Reader) []byte {
			b, _ := pack.Row(r.Row())
			return b
		},
	}
}

// A reader advances by the one encoding of what it read, or fails and stays.
func TestAnyReading(t *testing.T) {
	for at, b := range anyBytes() {
		r := pack.New(b)
		for i := 0; r.Left() > 0 && !r.Failed(); i++ {
			left := r.Left()
			got := reads()[(at+i)%4](r)
			rest := b[len(b)-left:]
			switch {
			case r.Failed() && (r.Left() != left || !bytes.Equal(got, []byte{0}) || !asked(r)):
				t.Errorf("%x: a reader that fails answers %x, %d left, then %d", b, got, left, r.Left())
			case !r.Failed() && (!bytes.HasPrefix(rest, got) || r.Left() != left-len(got)):
				t.Errorf("%x: %x is read at %d, %d left", b, got, len(b)-left, r.Left())
			}
		}
	}
}

func TestLongInput(t *testing.T) {
	const many = 200000
	if got, e := pack.Nums(make([]byte, many)); e != api.OK || len(got) != many {
		t.Errorf("%d numbers, error %d", len(got), e)
	}
	if got, e := pack.Rows(make([]byte, many)); e != api.OK || len(got) != many {
		t.Errorf("%d rows, error %d", len(got), e)
	}
	if got, e := pack.Nums(append(make([]byte, many), 1)); e != api.ErrShort || len(got) != 0 {
		t.Errorf("%d numbers, error %d", len(got), e)
	}
	if got, e := pack.Rows(append(make([]byte, many), 9)); e != api.ErrForm || len(got) != 0 {
		t.Errorf("%d rows, error %d", len(got), e)
	}
}
