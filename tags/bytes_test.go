package tags_test

import (
	"bytes"
	"math"
	"slices"
	"testing"

	"icehouse/api"
	"icehouse/pack"
	"icehouse/tags"
)

func mustBytes(t *testing.T, e api.Entry) []byte {
	t.Helper()
	b, err := tags.Bytes(e)
	if err != api.OK {
		t.Fatalf("Bytes of %q %v: error %d", e.Key, e.Tag, err)
	}
	return b
}

func row(s string) []byte {
	b, _ := pack.Row([]byte(s))
	return b
}

// fields are those of an entry, in their order.
type fields struct {
	key, seq, who, op, has, val []byte
}

// usual returns fields of an entry, of which one is then made wrong.
func usual() fields {
	return fields{row("k"), pack.Num(5), pack.Num(2), pack.Num(1), pack.Truth(true), row("xy")}
}

func (f fields) joined() []byte {
	return slices.Concat(f.key, f.seq, f.who, f.op, f.has, f.val)
}

func TestBytes(t *testing.T) {
	for _, c := range []struct {
		e    api.Entry
		want []byte
	}{
		{entry("k", tag(5, 2, 1), val("xy")), []byte{1, 1, 'k', 1, 5, 1, 2, 1, 1, 1, 1, 2, 'x', 'y'}},
		{entry("k", tag(0, 0, 0), none()), []byte{1, 1, 'k', 0, 0, 0, 0}},
		{entry("k", tag(1, 0, 0), none()), []byte{1, 1, 'k', 1, 1, 0, 0, 0}},
		{entry("k", tag(1, 0, 0), val("")), []byte{1, 1, 'k', 1, 1, 0, 0, 1, 0}},
		{entry("\x00\xff", tag(300, 0, 256), val("\x00")), []byte{1, 2, 0, 255, 2, 1, 44, 0, 2, 1, 0, 1, 1, 1, 0}},
		{
			entry("ab", tag(api.MaxSeq, api.MaxID, api.MaxID), none()),
			[]byte{1, 2, 'a', 'b', 5, 255, 255, 255, 255, 255, 3, 15, 255, 255, 3, 15, 255, 255, 0},
		},
		{
			entry(long(api.MaxKey), tag(1, 2, 3), val(long(api.MaxVal))),
			slices.Concat([]byte{1, 250}, []byte(long(api.MaxKey)), []byte{1, 1, 1, 2, 1, 3, 1, 2, 0xea, 0x60}, []byte(long(api.MaxVal))),
		},
	} {
		before := tags.Copy(c.e)
		if got, err := tags.Bytes(c.e); err != api.OK || !bytes.Equal(got, c.want) {
			t.Errorf("Bytes of %q %v: error %d, %d bytes", c.e.Key, c.e.Tag, err, len(got))
		}
		if !alike(c.e, before) {
			t.Errorf("Bytes changed %q %v", before.Key, before.Tag)
		}
	}
}

func TestBytesOfWrongEntries(t *testing.T) {
	for i, e := range wrongEntries() {
		if got, err := tags.Bytes(e); err != api.ErrArg || len(got) != 0 {
			t.Errorf("entry %d: %d bytes, error %d", i, len(got), err)
		}
	}
}

func TestBytesAreNewMemory(t *testing.T) {
	for _, e := range []api.Entry{entry("k", tag(5, 2, 1), val("xy")), entry("k", tag(0, 0, 0), none())} {
		before := tags.Copy(e)
		one, other := mustBytes(t, e), mustBytes(t, e)
		want := slices.Clone(one)
		spoil(one)
		if !bytes.Equal(other, want) || !bytes.Equal(mustBytes(t, e), want) || !alike(e, before) {
			t.Errorf("the bytes of %v are seen elsewhere", e.Tag)
		}
	}
}

// What was written is read back unchanged, and no two entries have one encoding.
func TestReadBack(t *testing.T) {
	seen := map[string]bool{}
	for i, e := range rightEntries() {
		b := mustBytes(t, e)
		before := slices.Clone(b)
		if got, err := tags.Read(b); err != api.OK || !alike(got, e) || !tags.Same(got, e) {
			t.Errorf("entry %d is read as %q %v, error %d", i, got.Key, got.Tag, err)
		}
		if !bytes.Equal(b, before) {
			t.Errorf("Read changed the bytes of entry %d", i)
		}
		if seen[string(b)] {
			t.Errorf("entry %d has the encoding of another one", i)
		}
		seen[string(b)] = true
	}
}

func TestReadCutShort(t *testing.T) {
	for i, e := range rightEntries() {
		b := mustBytes(t, e)
		for n := range b {
			if n > 300 && n < len(b)-300 { // of a long value the ends are enough
				continue
			}
			if got, err := tags.Read(b[:n]); err != api.ErrShort || !isZero(got) {
				t.Errorf("entry %d, %d bytes: %q %v, error %d", i, n, got.Key, got.Tag, err)
			}
		}
	}
	if got, err := tags.Read(nil); err != api.ErrShort || !isZero(got) {
		t.Errorf("Read(nil): %v, error %d", got, err)
	}
}

func TestReadWithBytesBehind(t *testing.T) {
	for i, e := range rightEntries() {
		b := mustBytes(t, e)
		for _, behind := range [][]byte{{0}, {1}, {255}, {0, 0, 0}, b} {
			if got, err := tags.Read(slices.Concat(b, behind)); err != api.ErrForm || !isZero(got) {
				t.Errorf("entry %d and %d bytes behind: %q, error %d", i, len(behind), got.Key, err)
			}
		}
	}
}

type wrongField struct {
	name string
	b    []byte
	e    api.Errno
}

// runWrong reads bytes of which an error is expected, at the beginning and behind
// another entry.
func runWrong(t *testing.T, cases []wrongField) {
	for _, c := range cases {
		if got, err := tags.Read(c.b); err != c.e || !isZero(got) {
			t.Errorf("%s: %q %v, error %d, not %d", c.name, got.Key, got.Tag, err, c.e)
		}
		first := entry("first", tag(1, 1, 1), val("f"))
		r := pack.New(append(mustBytes(t, first), c.b...))
		if got := tags.Get(r); !alike(got, first) || r.Failed() {
			t.Fatalf("%s: the entry before it is not read", c.name)
		}
		for range 2 {
			if got := tags.Get(r); !isZero(got) || !r.Failed() || r.End() != c.e {
				t.Errorf("%s: Get: %q %v, failed %v, error %d, not %d", c.name, got.Key, got.Tag, r.Failed(), r.End(), c.e)
			}
		}
	}
}

// badNums: no encodings of numbers from 0 to most, and the first error in them.
func badNums(most int) []wrongField {
	return []wrongField{
		{"one more", pack.Num(most + 1), api.ErrForm},
		{"the greatest number", pack.Num(math.MaxInt), api.ErrForm},
		{"-1", pack.Num(-1), api.ErrForm},
		{"the least number", pack.Num(math.MinInt), api.ErrForm},
		{"nine bytes", []byte{9, 1, 1, 1, 1, 1, 1, 1, 1, 1}, api.ErrForm},
		{"a zero more", []byte{2, 0, 1}, api.ErrForm},
		{"a zero that is written out", []byte{1, 0}, api.ErrForm},
	}
}

// A wrong number is wrong at once: whether there is anything behind it or not.
func TestReadWrongTags(t *testing.T) {
	for _, bad := range badNums(api.MaxSeq) {
		f := usual()
		f.seq = bad.b
		runWrong(t, []wrongField{{"Seq: " + bad.name, f.joined(), bad.e}, {"Seq, and no more: " + bad.name, slices.Concat(f.key, f.seq), bad.e}})
	}
	for _, bad := range badNums(api.MaxID) {
		f := usual()
		f.who = bad.b
		runWrong(t, []wrongField{{"Who: " + bad.name, f.joined(), bad.e}, {"Who, and no more: " + bad.name, slices.Concat(f.key, f.seq, f.who), bad.e}})
		f = usual()
		f.op = bad.b
		runWrong(t, []wrongField{{"Op: " + bad.name, f.joined(), bad.e}, {"Op, and no more: " + bad.name, slices.Concat(f.key, f.seq, f.who, f.op), bad.e}})
	}
}

// with returns the usual fields after a change.
func with(change func(f *fields)) []byte {
	f := usual()
	change(&f)
	return f.joined()
}

func TestReadWrongKeysAndValues(t *testing.T) {
	tooLong := append(pack.Num(api.MaxField+1), make([]byte, api.MaxField+1)...)
	runWrong(t, []wrongField{
		{"no key", with(func(f *fields) { f.key = row("") }), api.ErrForm},
		{"a long key", with(func(f *fields) { f.key = row(long(api.MaxKey + 1)) }), api.ErrForm},
		{"a key as long as a row may be", with(func(f *fields) { f.key = row(long(api.MaxField)) }), api.ErrForm},
		{"a key that is no row", with(func(f *fields) { f.key = tooLong }), api.ErrForm},
		{"a key of negative length", with(func(f *fields) { f.key = pack.Num(-1) }), api.ErrForm},
		{"a key whose length is no number", with(func(f *fields) { f.key = []byte{1, 0} }), api.ErrForm},
		{"a long value", with(func(f *fields) { f.val = row(long(api.MaxVal + 1)) }), api.ErrForm},
		{"a value as long as a row may be", with(func(f *fields) { f.val = row(long(api.MaxField)) }), api.ErrForm},
		{"a value that is no row", with(func(f *fields) { f.val = tooLong }), api.ErrForm},
		{"a value of negative length", with(func(f *fields) { f.val = pack.Num(-1) }), api.ErrForm},
		{"a value whose length is no number", with(func(f *fields) { f.val = []byte{9} }), api.ErrForm},
		{"bytes without Has", with(func(f *fields) { f.key, f.has = row(""), pack.Truth(false) }), api.ErrForm},
		{"no truth", with(func(f *fields) { f.has = []byte{2} }), api.ErrForm},
		{"no truth, and no more", with(func(f *fields) { f.has, f.val = []byte{255}, nil }), api.ErrForm},
		{"Has without bytes", with(func(f *fields) { f.val = nil }), api.ErrShort},
	})
}

func TestReadEntriesThatMayNotBe(t *testing.T) {
	zero := pack.Num(0)
	runWrong(t, []wrongField{
		{"None with Has", with(func(f *fields) { f.seq, f.who, f.op = zero, zero, zero }), api.ErrForm},
		{"None with an empty value", []byte{1, 1, 'k', 0, 0, 0, 1, 0}, api.ErrForm},
		{"None with Who", []byte{1, 1, 'k', 0, 1, 1, 0, 0}, api.ErrForm},
		{"None with Op", []byte{1, 1, 'k', 0, 0, 1, 1, 0}, api.ErrForm},
		{"no key, nothing written", []byte{0, 0, 0, 0, 0}, api.ErrForm},
		{"no key, but a value", with(func(f *fields) { f.key = row("") }), api.ErrForm},
	})
}

// An entry that may not be is found out when all is read: what is missing, or
// wrong by itself, comes first.
func TestReadErrorsInOrder(t *testing.T) {
	runWrong(t, []wrongField{
		{"no key, and no more", []byte{0}, api.ErrShort},
		{"no key, cut in the tag", []byte{0, 1}, api.ErrShort},
		{"no key, cut before the truth", []byte{0, 0, 0, 0}, api.ErrShort},
		{"a long key, and no more", row(long(api.MaxKey + 1)), api.ErrShort},
		{"None with Who, cut", []byte{1, 1, 'k', 0, 1, 1, 0}, api.ErrShort},
		{"None with Op, cut", []byte{1, 1, 'k', 0, 0, 1, 1}, api.ErrShort},
		{"None with Has, cut", []byte{1, 1, 'k', 0, 0, 0, 1}, api.ErrShort},
		{"None with a value, cut", []byte{1, 1, 'k', 0, 0, 0, 1, 1, 2, 'x'}, api.ErrShort},
		{"a long value, cut", with(func(f *fields) { f.val = row(long(api.MaxVal + 1))[:api.MaxVal+3] }), api.ErrShort},
		{"a wrong Seq, then a wrong truth", with(func(f *fields) { f.seq, f.has = pack.Num(-1), []byte{2} }), api.ErrForm},
		{"a missing byte of the key, then nothing", []byte{1, 2, 'k'}, api.ErrShort},
	})
}

// Entries are read one after the other, between other fields.
func TestGet(t *testing.T) {
	l := rightEntries()
	var b []byte
	for i, e := range l {
		b = slices.Concat(b, pack.Num(i), mustBytes(t, e), pack.Truth(i%2 == 0))
	}
	r := pack.New(b)
	for i, e := range l {
		if r.Num() != i || r.Failed() {
			t.Fatalf("the number before entry %d is not read", i)
		}
		left := r.Left()
		if got := tags.Get(r); !alike(got, e) || r.Failed() || r.Left() != left-len(mustBytes(t, e)) {
			t.Errorf("entry %d is read as %q %v, error %d", i, got.Key, got.Tag, r.End())
		}
		if r.Truth() != (i%2 == 0) || r.Failed() {
			t.Fatalf("the truth behind entry %d is not read", i)
		}
	}
	if r.End() != api.OK {
		t.Errorf("at the end: error %d", r.End())
	}
}

func TestGetOfNoBytes(t *testing.T) {
	r := pack.New(nil)
	if got := tags.Get(r); !isZero(got) || !r.Failed() || r.End() != api.ErrShort {
		t.Errorf("%v, error %d", got, r.End())
	}
}

// A reader that has failed gives nothing, though there is an entry before it, and
// keeps its first error and its place.
func TestGetOfFailedReader(t *testing.T) {
	for i, e := range rightEntries() {
		b := mustBytes(t, e)
		r := pack.New(b)
		r.Fail()
		for range 2 {
			if got := tags.Get(r); !isZero(got) || r.End() != api.ErrForm || r.Left() != len(b) {
				t.Errorf("entry %d: %q %v, error %d, %d left", i, got.Key, got.Tag, r.End(), r.Left())
			}
		}
		r = pack.New(slices.Concat([]byte{9}, b))
		if r.Num() != 0 || !isZero(tags.Get(r)) || r.End() != api.ErrForm || r.Left() != len(b)+1 {
			t.Errorf("entry %d behind no number: error %d, %d left", i, r.End(), r.Left())
		}
	}
	r := pack.New([]byte{1})
	r.Num()
	if got := tags.Get(r); !isZero(got) || r.End() != api.ErrShort {
		t.Errorf("behind a missing byte: %v, error %d", got, r.End())
	}
}

func TestGetOfNilReader(t *testing.T) {
	var r *pack.Reader
	for range 2 {
		if got := tags.Get(r); !isZero(got) || !r.Failed() || r.End() != api.ErrNil {
			t.Errorf("a nil reader: %v, error %d", got, r.End())
		}
	}
}

// What is read is new memory.
func TestReadIsNewMemory(t *testing.T) {
	e := entry("k", tag(5, 2, 1), val("xy"))
	b := mustBytes(t, e)
	before := slices.Clone(b)
	one, _ := tags.Read(b)
	other, _ := tags.Read(b)
	spoil(one.Val.B)
	if !bytes.Equal(b, before) || !alike(other, e) {
		t.Error("a value is seen elsewhere")
	}
	spoil(b)
	if !alike(other, e) {
		t.Error("the bytes are seen in what was read from them")
	}
	r := pack.New(slices.Concat(before, before))
	first := tags.Get(r)
	spoil(first.Val.B)
	if second := tags.Get(r); !alike(second, e) || r.End() != api.OK {
		t.Errorf("a value is seen in the entry behind it: error %d", r.End())
	}
}

// checkAny reads any bytes: they are either the one encoding of an entry that may
// be, or an error is reported, and no entry. It reports whether they are one.
func checkAny(t *testing.T, b []byte) bool {
	got, err := tags.Read(b)
	switch err {
	case api.OK:
		back, e := tags.Bytes(got)
		if e != api.OK || !bytes.Equal(back, b) || tags.Right(got) != api.OK {
			t.Errorf("%x is read as %q %v, which has the encoding %x, error %d", b, got.Key, got.Tag, back, e)
		}
		return true
	case api.ErrForm, api.ErrShort:
		if !isZero(got) {
			t.Errorf("%x is read as %q %v beside the error %d", b, got.Key, got.Tag, err)
		}
	default:
		t.Errorf("%x: error %d", b, err)
	}
	return false
}

// All words of three letters, up to the length of an entry with a value. Counted
// by hand, entries are 12 of them with Seq 0, and of the others 6 with 8 bytes, 66
// with 9 and 354 with 10.
func TestAnyBytes(t *testing.T) {
	entries := 0
	for last, n := [][]byte{nil}, 0; n <= 10; n++ {
		var longer [][]byte
		for _, b := range last {
			if checkAny(t, b) {
				entries++
			}
			for _, c := range []byte{0, 1, 2} {
				longer = append(longer, append(slices.Clone(b), c))
			}
		}
		last = longer
	}
	if entries != 12+6+66+354 {
		t.Errorf("%d of them are entries", entries)
	}
}

// Each byte of an encoding is put to each value. Long values are left out: they
// only take time.
func TestChangedBytes(t *testing.T) {
	for _, e := range rightEntries() {
		b := mustBytes(t, e)
		if len(b) > 1000 {
			continue
		}
		for i, before := range b {
			for c := range 256 {
				b[i] = byte(c)
				if !checkAny(t, b) && b[i] == before {
					t.Errorf("%q %v is not read back", e.Key, e.Tag)
				}
			}
			b[i] = before
		}
	}
}
