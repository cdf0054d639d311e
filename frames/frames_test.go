package frames_test

import (
	"bytes"
	"encoding/binary"
	"hash/fnv"
	"slices"
	"testing"

	"icehouse/api"
	"icehouse/frames"
)

// checkOf: the check of layer 4, by its chapter's words.
func checkOf(b []byte) uint32 {
	h := fnv.New64a()
	h.Write(b)
	return uint32(h.Sum64()>>32) ^ uint32(h.Sum64())
}

// frameOf: a frame by the chapter's words, also of a record that is too long, and
// of a length that is not that of its bytes.
func frameOf(kind byte, length uint32, b []byte) []byte {
	out := binary.BigEndian.AppendUint32([]byte{0xa5, kind}, length)
	out = append(out, b...)
	return binary.BigEndian.AppendUint32(out, checkOf(out))
}

// spread fills n bytes with something that tells places apart.
func spread(n int) []byte {
	out := make([]byte, n)
	for i := range out {
		out[i] = byte(i*151 + i>>8)
	}
	return out
}

// spoil overwrites a slice up to its capacity.
func spoil(b []byte) {
	b = b[:cap(b)]
	for i := range b {
		b[i] = 0xee
	}
}

func mustOne(t *testing.T, r api.Record) []byte {
	t.Helper()
	b, e := frames.One(r.Kind, r.B)
	if e != api.OK {
		t.Fatalf("One of kind %d and %d bytes: error %d", r.Kind, len(r.B), e)
	}
	return b
}

func mustAll(t *testing.T, l ...api.Record) []byte {
	t.Helper()
	b, e := frames.All(l...)
	if e != api.OK {
		t.Fatalf("All of %d records: error %d", len(l), e)
	}
	return b
}

// records: empty ones, those whose bytes look like frames or parts of them, and
// the lengths at which another byte of the length is taken.
func records() []api.Record {
	return []api.Record{
		{Kind: 7},
		{Kind: 0, B: []byte{}},
		{Kind: 255},
		{Kind: 1, B: []byte("abc")},
		{Kind: 0, B: []byte{0}},
		{Kind: 0xa5, B: []byte{0xa5, 0xa5}},
		{Kind: 2, B: frameOf(3, 1, []byte("x"))},
		{Kind: 2, B: frameOf(3, 5, []byte("x"))},
		{Kind: 2, B: []byte{0xa5, 0, 0xff, 0xff, 0xff, 0xff}},
		{Kind: 9, B: spread(255)},
		{Kind: 9, B: spread(256)},
		{Kind: 1, B: spread(65535)},
		{Kind: 1, B: spread(api.MaxRecord)},
		{Kind: 128, B: make([]byte, 600)},
	}
}

// short: those of the records whose every byte may be gone through.
func short() []api.Record {
	return slices.DeleteFunc(records(), func(r api.Record) bool { return len(r.B) > 600 })
}

// Their last four bytes were computed apart from the program.
func TestOne(t *testing.T) {
	for _, c := range []struct {
		kind byte
		b    []byte
		head []byte
		last []byte
	}{
		{7, nil, []byte{0xa5, 7, 0, 0, 0, 0}, []byte{0xb1, 0x98, 0x01, 0x0b}},
		{7, []byte{}, []byte{0xa5, 7, 0, 0, 0, 0}, []byte{0xb1, 0x98, 0x01, 0x0b}},
		{0, nil, []byte{0xa5, 0, 0, 0, 0, 0}, []byte{0xff, 0xd4, 0x7c, 0x94}},
		{255, nil, []byte{0xa5, 255, 0, 0, 0, 0}, []byte{0x75, 0x94, 0xca, 0xf7}},
		{1, []byte("abc"), []byte{0xa5, 1, 0, 0, 0, 3}, []byte{0x61, 0x65, 0x4b, 0x53}},
		{2, []byte("a"), []byte{0xa5, 2, 0, 0, 0, 1}, []byte{0xfd, 0xb5, 0xf8, 0xed}},
		{3, []byte{0}, []byte{0xa5, 3, 0, 0, 0, 1}, []byte{0xa7, 0x39, 0x04, 0xda}},
		{255, []byte{0xa5}, []byte{0xa5, 255, 0, 0, 0, 1}, []byte{0x61, 0x9c, 0xff, 0xb1}},
		{0xa5, []byte{0xa5, 0xa5}, []byte{0xa5, 0xa5, 0, 0, 0, 2}, []byte{0x6a, 0x6c, 0xb4, 0x12}},
		{1, spread(65535), []byte{0xa5, 1, 0, 0, 0xff, 0xff}, []byte{0x76, 0xdc, 0xb7, 0x39}},
		{1, spread(65536), []byte{0xa5, 1, 0, 1, 0, 0}, []byte{0xae, 0xfb, 0x99, 0xdf}},
	} {
		want := slices.Concat(c.head, c.b, c.last)
		if got, e := frames.One(c.kind, c.b); e != api.OK || !bytes.Equal(got, want) {
			t.Errorf("One of kind %d and %d bytes: %d bytes, error %d", c.kind, len(c.b), len(got), e)
		}
	}
}

func TestOneOfEachKind(t *testing.T) {
	for kind := range 256 {
		for _, b := range [][]byte{nil, []byte("k"), spread(300)} {
			want := frameOf(byte(kind), uint32(len(b)), b)
			if got, e := frames.One(byte(kind), b); e != api.OK || !bytes.Equal(got, want) {
				t.Errorf("One of kind %d and %d bytes is %x, error %d", kind, len(b), got, e)
			}
		}
	}
}

func TestOneOfEachLength(t *testing.T) {
	b := spread(api.MaxRecord)
	for n := 0; n <= len(b); n += 1 + n/100 {
		if got, e := frames.One(4, b[:n]); e != api.OK || !bytes.Equal(got, frameOf(4, uint32(n), b[:n])) {
			t.Errorf("One of %d bytes: %d bytes, error %d", n, len(got), e)
		}
	}
}

func TestOneOfTooManyBytes(t *testing.T) {
	for _, n := range []int{api.MaxRecord + 1, api.MaxRecord + 2, 2 * api.MaxRecord, 1 << 24} {
		for _, kind := range []byte{0, 1, 255} {
			if got, e := frames.One(kind, make([]byte, n)); e != api.ErrLong || len(got) != 0 {
				t.Errorf("One of kind %d and %d bytes: %d bytes, error %d", kind, n, len(got), e)
			}
		}
	}
}

func TestAll(t *testing.T) {
	var want []byte
	for i, r := range records() {
		if got := mustAll(t, r); !bytes.Equal(got, mustOne(t, r)) {
			t.Errorf("All of record %d alone is not One of it", i)
		}
		want = append(want, frameOf(r.Kind, uint32(len(r.B)), r.B)...)
		if got := mustAll(t, records()[:i+1]...); !bytes.Equal(got, want) {
			t.Errorf("All of %d records: %d bytes, not %d", i+1, len(got), len(want))
		}
	}
}

func TestAllOfNone(t *testing.T) {
	for _, l := range [][]api.Record{nil, {}} {
		if got, e := frames.All(l...); e != api.OK || len(got) != 0 {
			t.Errorf("All of no records: %x, error %d", got, e)
		}
	}
	if got, e := frames.All(); e != api.OK || len(got) != 0 {
		t.Errorf("All() = %x, error %d", got, e)
	}
	if got := mustAll(t, api.Record{}); !bytes.Equal(got, frameOf(0, 0, nil)) {
		t.Errorf("All of the zero record = %x", got)
	}
}

// A record that is too long is found wherever it is, and then there are no bytes.
func TestAllOfTooManyBytes(t *testing.T) {
	long := api.Record{Kind: 3, B: make([]byte, api.MaxRecord+1)}
	for i := range len(records()) + 1 {
		l := slices.Insert(records(), i, long)
		if got, e := frames.All(l...); e != api.ErrLong || len(got) != 0 {
			t.Errorf("a long record at %d: %d bytes, error %d", i, len(got), e)
		}
	}
	for _, l := range [][]api.Record{{long}, {long, long}} {
		if got, e := frames.All(l...); e != api.ErrLong || len(got) != 0 {
			t.Errorf("%d long records: %d bytes, error %d", len(l), len(got), e)
		}
	}
}

// Neither the bytes of a record nor what lies behind them are touched, and what
// becomes of them later is not seen in its frame.
func TestFramesAreNewMemory(t *testing.T) {
	for _, r := range records() {
		behind := []byte("behind")
		whole := slices.Concat(r.B, behind)
		part := api.Record{Kind: r.Kind, B: whole[:len(r.B)]}
		before, want := slices.Clone(whole), mustOne(t, r)
		one, all, others := mustOne(t, part), mustAll(t, part, part), mustOne(t, part)
		spoil(one)
		if !bytes.Equal(whole, before) || !bytes.Equal(others, want) || !bytes.Equal(all, slices.Concat(want, want)) {
			t.Errorf("a frame of %d bytes is seen elsewhere", len(r.B))
		}
		spoil(all)
		if !bytes.Equal(whole, before) || !bytes.Equal(others, want) {
			t.Errorf("frames of %d bytes are seen elsewhere", len(r.B))
		}
		spoil(whole)
		if !bytes.Equal(others, want) {
			t.Errorf("%d bytes are seen in their frame", len(r.B))
		}
	}
}

func TestAllLeavesItsRecordsAlone(t *testing.T) {
	l := records()
	mustAll(t, l...)
	if len(l) != len(records()) || !slices.EqualFunc(l, records(), alike) {
		t.Error("the records are changed")
	}
}

// alike: the same kind and bytes, held against each other without the program.
func alike(a, b api.Record) bool {
	return a.Kind == b.Kind && string(a.B) == string(b.B)
}
