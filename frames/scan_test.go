package frames_test

import (
	"bytes"
	"slices"
	"testing"

	"icehouse/api"
	"icehouse/frames"
)

// holdScan holds Scan against the chapter's words, and All against Scan: the
// records are those whose frames were read.
func holdScan(t *testing.T, b []byte) {
	t.Helper()
	var want []api.Record
	at, e := 0, api.OK
	for at < len(b) {
		r, size, err := nextOf(b[at:])
		if err != api.OK {
			e = err
			break
		}
		want, at = append(want, r), at+size
	}
	got, n, err := frames.Scan(b)
	if err != e || n != at || !slices.EqualFunc(got, want, alike) {
		t.Errorf("Scan of %d bytes: %d records, length %d, error %d; not %d, %d, %d", len(b), len(got), n, err, len(want), at, e)
		return
	}
	if back, err := frames.All(got...); err != api.OK || !bytes.Equal(back, b[:n]) {
		t.Errorf("the records in %d bytes have other frames, error %d", len(b), err)
	}
}

// scanned reports a fault unless Scan returns those records, how long they are,
// and that error.
func scanned(t *testing.T, name string, b []byte, l []api.Record, n int, e api.Errno) {
	t.Helper()
	before := slices.Clone(b)
	got, at, err := frames.Scan(b)
	if err != e || at != n || !slices.EqualFunc(got, l, alike) {
		t.Errorf("%s: %d records, length %d, error %d; not %d, %d, %d", name, len(got), at, err, len(l), n, e)
	}
	if !bytes.Equal(b, before) {
		t.Errorf("%s: the bytes are changed", name)
	}
}

// What was written is found, from no record on.
func TestScan(t *testing.T) {
	for i := range len(records()) + 1 {
		l := records()[:i]
		b := mustAll(t, l...)
		scanned(t, "frames", b, l, len(b), api.OK)
		slices.Reverse(l)
		scanned(t, "frames in another order", mustAll(t, l...), l, len(b), api.OK)
	}
	same := slices.Repeat([]api.Record{{Kind: 1, B: []byte("x")}}, 5000)
	scanned(t, "many frames", mustAll(t, same...), same, 5000*11, api.OK)
}

func TestScanOfNothing(t *testing.T) {
	scanned(t, "nil", nil, nil, 0, api.OK)
	scanned(t, "no bytes", []byte{}, nil, 0, api.OK)
	scanned(t, "the zero record", frameOf(0, 0, nil), []api.Record{{}}, 10, api.OK)
}

// The error is that of the first frame that is none, and what stands before it is
// returned beside it.
func TestScanOfWrongEnds(t *testing.T) {
	wrong := frameOf(1, 1, []byte("x"))
	wrong[6]++
	for i := range len(records()) + 1 {
		l := records()[:i]
		b := mustAll(t, l...)
		good := frameOf(9, 2, []byte("ok"))
		for _, c := range []struct {
			name string
			end  []byte
			e    api.Errno
		}{
			{"another first byte", []byte{0}, api.ErrForm},
			{"another first byte before a frame", slices.Concat([]byte{1}, good), api.ErrForm},
			{"a lone first byte", []byte{0xa5}, api.ErrShort},
			{"a head", []byte{0xa5, 1, 0, 0, 0, 0}, api.ErrShort},
			{"a great length", []byte{0xa5, 1, 0, 1, 0, 1}, api.ErrForm},
			{"a great length before a frame", slices.Concat([]byte{0xa5, 1, 0xff, 0xff, 0xff, 0xff}, good), api.ErrForm},
			{"a missing byte", good[:len(good)-1], api.ErrShort},
			{"a wrong check", wrong, api.ErrSum},
			{"a wrong check before a frame", slices.Concat(wrong, good), api.ErrSum},
			{"a first byte too many", slices.Concat([]byte{0xa5}, good), api.ErrForm},
			{"zeros", make([]byte, 100), api.ErrForm},
		} {
			scanned(t, c.name, slices.Concat(b, c.end), l, len(b), c.e)
		}
	}
}

// If the bytes are cut anywhere, all complete frames are found.
func TestScanOfCutBytes(t *testing.T) {
	l := short()
	b := mustAll(t, l...)
	for n := range len(b) + 1 {
		count, end := 0, 0
		for _, r := range l {
			if end+len(r.B)+10 > n {
				break
			}
			count, end = count+1, end+len(r.B)+10
		}
		e := api.ErrShort
		if end == n {
			e = api.OK
		}
		scanned(t, "cut", b[:n], l[:count], end, e)
	}
}

func TestScanOfCutLongRecords(t *testing.T) {
	l := []api.Record{{Kind: 1, B: spread(api.MaxRecord)}, {Kind: 2, B: spread(api.MaxRecord)}}
	b := mustAll(t, l...)
	half := len(b) / 2
	for n := 1; n < half; n += 997 {
		scanned(t, "cut in the first", b[:n], nil, 0, api.ErrShort)
		scanned(t, "cut in the second", b[:half+n], l[:1], half, api.ErrShort)
	}
	scanned(t, "cut before the end", b[:len(b)-1], l[:1], half, api.ErrShort)
	scanned(t, "cut before the second", b[:half], l[:1], half, api.OK)
}

// Each byte of several frames is put to each value.
func TestScanOfChangedBytes(t *testing.T) {
	b := mustAll(t, api.Record{Kind: 1, B: []byte("abc")}, api.Record{Kind: 2}, api.Record{Kind: 255, B: []byte{0xa5}})
	for i, before := range b {
		for c := range 256 {
			b[i] = byte(c)
			holdScan(t, b)
			holdScan(t, b[:i+1])
		}
		b[i] = before
	}
}

// Any part of several frames.
func TestScanOfParts(t *testing.T) {
	b := mustAll(t, api.Record{Kind: 1, B: frameOf(4, 1, []byte("x"))}, api.Record{Kind: 2}, api.Record{Kind: 0xa5, B: []byte{0xa5, 0}}, api.Record{})
	for i := range b {
		for j := i; j <= len(b); j++ {
			holdScan(t, b[i:j])
		}
	}
}

func TestScanIsNewMemory(t *testing.T) {
	l := records()
	b := mustAll(t, l...)
	torn := slices.Concat(b, []byte{0xa5, 1})
	for _, whole := range [][]byte{b, torn} {
		before := slices.Clone(whole)
		got, _, _ := frames.Scan(whole)
		other, _, _ := frames.Scan(whole)
		for i, r := range got {
			spoil(r.B)
			if !bytes.Equal(whole, before) || !slices.EqualFunc(got[i+1:], l[i+1:], alike) {
				t.Errorf("the bytes of record %d are seen elsewhere", i)
			}
		}
		for i := range got[:cap(got)] {
			got[:cap(got)][i] = api.Record{Kind: 99}
		}
		if !slices.EqualFunc(other, l, alike) {
			t.Error("the records of one call are seen in those of another")
		}
		spoil(whole)
		if !slices.EqualFunc(other, l, alike) {
			t.Error("the bytes are seen in what was read from them")
		}
		copy(whole, before)
	}
}

func TestSame(t *testing.T) {
	l := records()
	for i := range len(l) + 1 {
		for j := range len(l) + 1 {
			if got := frames.Same(l[:i], records()[:j]); got != (i == j) {
				t.Errorf("the first %d and the first %d records: %v", i, j, got)
			}
			if got := frames.Same(l[i:], records()[j:]); got != (i == j) {
				t.Errorf("the records from %d and from %d on: %v", i, j, got)
			}
		}
	}
}

func TestSameOfNothing(t *testing.T) {
	none, empty := []api.Record(nil), []api.Record{}
	if !frames.Same(none, empty) || !frames.Same(empty, none) || !frames.Same(none, none) {
		t.Error("lists without records are not the same")
	}
	a, b := []api.Record{{Kind: 1}}, []api.Record{{Kind: 1, B: []byte{}}}
	if !frames.Same(a, b) || !frames.Same(b, a) {
		t.Error("records without bytes are not the same")
	}
	if frames.Same(none, []api.Record{{}}) || frames.Same([]api.Record{{}}, none) {
		t.Error("no record and the zero record are the same")
	}
}

// One change of one element, in either list, makes them differ.
func TestSameOfOtherRecords(t *testing.T) {
	for i := range short() {
		for _, change := range []func(r *api.Record){
			func(r *api.Record) { r.Kind++ },
			func(r *api.Record) { r.Kind ^= 0x80 },
			func(r *api.Record) { r.B = append(r.B, 0) },
			func(r *api.Record) { r.B = append([]byte{0xa5}, r.B...) },
			func(r *api.Record) {
				if len(r.B) == 0 {
					r.B = []byte{1}
				} else {
					r.B = r.B[:len(r.B)-1]
				}
			},
			func(r *api.Record) {
				if len(r.B) == 0 {
					r.Kind--
				} else {
					r.B[0]++
				}
			},
		} {
			l := short()
			change(&l[i])
			if frames.Same(l, short()) || frames.Same(short(), l) {
				t.Errorf("a change of record %d is not seen", i)
			}
		}
	}
	a, b := api.Record{Kind: 1, B: []byte("a")}, api.Record{Kind: 2, B: []byte("b")}
	if frames.Same([]api.Record{a, b}, []api.Record{b, a}) {
		t.Error("the order does not count")
	}
	if frames.Same([]api.Record{a, a, b}, []api.Record{a, b, b}) || frames.Same([]api.Record{a}, []api.Record{a, a}) {
		t.Error("how often a record is there does not count")
	}
}

func TestSameLeavesItsRecordsAlone(t *testing.T) {
	a, b := records(), records()
	b[3].B[0]++
	before := b[3].B[0]
	if frames.Same(a, b) {
		t.Error("other bytes are the same")
	}
	if !slices.EqualFunc(a, records(), alike) || b[3].B[0] != before {
		t.Error("the records are changed")
	}
}
