package frames_test

import (
	"bytes"
	"encoding/binary"
	"slices"
	"testing"

	"icehouse/api"
	"icehouse/frames"
)

// nextOf: Next by the chapter's words.
func nextOf(b []byte) (api.Record, int, api.Errno) {
	var none api.Record
	if len(b) == 0 {
		return none, 0, api.ErrNone
	}
	if b[0] != 0xa5 {
		return none, 0, api.ErrForm
	}
	if len(b) < 6 {
		return none, 0, api.ErrShort
	}
	length := int64(binary.BigEndian.Uint32(b[2:6]))
	if length > 65536 {
		return none, 0, api.ErrForm
	}
	if int64(len(b)) < 6+length+4 {
		return none, 0, api.ErrShort
	}
	if binary.BigEndian.Uint32(b[6+length:]) != checkOf(b[:6+length]) {
		return none, 0, api.ErrSum
	}
	return api.Record{Kind: b[1], B: b[6 : 6+length]}, int(6 + length + 4), api.OK
}

// holdNext holds Next against the chapter's words.
func holdNext(t *testing.T, b []byte) {
	t.Helper()
	want, size, e := nextOf(b)
	kind, data, n, err := frames.Next(b)
	if err != e || n != size || !alike(api.Record{Kind: kind, B: data}, want) {
		t.Errorf("Next of %d bytes: kind %d, %d bytes, length %d, error %d; not %d, %d, %d, %d",
			len(b), kind, len(data), n, err, want.Kind, len(want.B), size, e)
	}
}

// refused reports a fault unless Next returns that error, and nothing beside it.
func refused(t *testing.T, name string, b []byte, e api.Errno) {
	t.Helper()
	if kind, data, n, err := frames.Next(b); err != e || kind != 0 || len(data) != 0 || n != 0 {
		t.Errorf("%s: kind %d, %d bytes, length %d, error %d, not %d", name, kind, len(data), n, err, e)
	}
}

// Frames that were written are found, whatever follows them.
func TestNext(t *testing.T) {
	for i, r := range records() {
		frame := mustOne(t, r)
		for _, behind := range [][]byte{nil, {0}, {0xa5}, {0xee, 0xff}, frame, spread(1000)} {
			b := slices.Concat(frame, behind)
			before := slices.Clone(b)
			kind, data, n, e := frames.Next(b)
			if e != api.OK || kind != r.Kind || !bytes.Equal(data, r.B) || n != len(frame) {
				t.Errorf("record %d and %d bytes behind: kind %d, %d bytes, length %d, error %d", i, len(behind), kind, len(data), n, e)
			}
			if !bytes.Equal(b, before) {
				t.Errorf("record %d: the bytes are changed", i)
			}
			holdNext(t, b)
		}
	}
}

func TestNextOfWrittenBytes(t *testing.T) {
	for _, c := range []struct {
		b    []byte
		want api.Record
		n    int
	}{
		{[]byte{0xa5, 7, 0, 0, 0, 0, 0xb1, 0x98, 0x01, 0x0b}, api.Record{Kind: 7}, 10},
		{[]byte{0xa5, 7, 0, 0, 0, 0, 0xb1, 0x98, 0x01, 0x0b, 0x0b}, api.Record{Kind: 7}, 10},
		{[]byte{0xa5, 0, 0, 0, 0, 0, 0xff, 0xd4, 0x7c, 0x94}, api.Record{}, 10},
		{[]byte{0xa5, 1, 0, 0, 0, 3, 'a', 'b', 'c', 0x61, 0x65, 0x4b, 0x53}, api.Record{Kind: 1, B: []byte("abc")}, 13},
		{[]byte{0xa5, 0xa5, 0, 0, 0, 2, 0xa5, 0xa5, 0x6a, 0x6c, 0xb4, 0x12}, api.Record{Kind: 0xa5, B: []byte{0xa5, 0xa5}}, 12},
	} {
		kind, data, n, e := frames.Next(c.b)
		if e != api.OK || n != c.n || !alike(api.Record{Kind: kind, B: data}, c.want) {
			t.Errorf("Next(%x): kind %d, %x, length %d, error %d", c.b, kind, data, n, e)
		}
	}
}

func TestNextOfNothing(t *testing.T) {
	refused(t, "nil", nil, api.ErrNone)
	refused(t, "no bytes", []byte{}, api.ErrNone)
	refused(t, "no bytes, with a frame behind", frameOf(1, 0, nil)[:0], api.ErrNone)
}

// Another first byte is wrong at once, however many bytes there are.
func TestNextOfOtherFirstBytes(t *testing.T) {
	for c := range 256 {
		if c == 0xa5 {
			continue
		}
		b := frameOf(1, 2, []byte("ab"))
		b[0] = byte(c)
		for n := 1; n <= len(b); n++ {
			refused(t, "another first byte", b[:n], api.ErrForm)
		}
		whole := slices.Concat([]byte{byte(c), 1, 0, 0, 0, 0}, binary.BigEndian.AppendUint32(nil, checkOf([]byte{byte(c), 1, 0, 0, 0, 0})))
		refused(t, "another first byte, with its own check", whole, api.ErrForm)
		refused(t, "another first byte before a frame", slices.Concat([]byte{byte(c)}, frameOf(1, 0, nil)), api.ErrForm)
	}
}

// Fewer than six bytes are too few, even if their length is too great already.
func TestNextOfFewerThanSixBytes(t *testing.T) {
	for _, head := range [][]byte{
		{0xa5, 0, 0, 0, 0}, {0xa5, 7, 0, 1, 0}, {0xa5, 7, 0, 1, 1}, {0xa5, 7, 0, 2, 0}, {0xa5, 7, 1, 0, 0}, {0xa5, 255, 255, 255, 255},
	} {
		for n := 1; n <= len(head); n++ {
			refused(t, "fewer than six bytes", head[:n], api.ErrShort)
		}
	}
}

// A length that is too great comes before the bytes that are missing, and before
// the check.
func TestNextOfGreatLengths(t *testing.T) {
	for _, length := range []uint32{
		api.MaxRecord + 1, api.MaxRecord + 2, 1<<16 + 1<<8, 1 << 17, 1 << 24, 1<<24 + 1, 1<<31 - 1, 1 << 31, 1<<31 + 1, 1<<32 - 10, 1<<32 - 6, 1<<32 - 1,
	} {
		refused(t, "a great length, and no more", frameOf(1, length, nil)[:6], api.ErrForm)
		refused(t, "a great length, and a check", frameOf(1, length, nil), api.ErrForm)
		refused(t, "a great length, and bytes", frameOf(1, length, spread(1000)), api.ErrForm)
		if length < 1<<20 {
			b := frameOf(1, length, spread(int(length)))
			refused(t, "a great length, with all its bytes", b, api.ErrForm)
			b[len(b)-1]++
			refused(t, "a great length, with a wrong check", b, api.ErrForm)
		}
	}
}

func TestNextOfMissingBytes(t *testing.T) {
	refused(t, "the greatest length, and no more", []byte{0xa5, 1, 0, 1, 0, 0}, api.ErrShort)
	refused(t, "no length, and no more", []byte{0xa5, 1, 0, 0, 0, 0}, api.ErrShort)
	refused(t, "a byte of the check is missing", frameOf(1, api.MaxRecord, spread(api.MaxRecord))[:api.MaxRecord+9], api.ErrShort)
	refused(t, "a length of one more", frameOf(1, 3, []byte("ab")), api.ErrShort)
	refused(t, "a length of 256 more", frameOf(1, 258, []byte("ab")), api.ErrShort)
	for _, r := range records() {
		b := mustOne(t, r)
		for n := 1; n < len(b); n++ {
			if n > 300 && n < len(b)-300 { // of long records the ends are enough
				continue
			}
			refused(t, "a frame that is cut", b[:n], api.ErrShort)
			torn := slices.Clone(b[:n])
			torn[n-1] ^= 1
			holdNext(t, torn)
		}
	}
}

// The check is over all bytes before it, the first one included, and each of its
// bytes counts.
func TestNextOfWrongChecks(t *testing.T) {
	for _, r := range records() {
		b := mustOne(t, r)
		for i := range 4 {
			for _, c := range []byte{1, 0x80, 0xff} {
				b[len(b)-1-i] ^= c
				refused(t, "a wrong check", b, api.ErrSum)
				refused(t, "a wrong check, and bytes", slices.Concat(b, []byte{0xa5}), api.ErrSum)
				b[len(b)-1-i] ^= c
			}
		}
		slices.Reverse(b[len(b)-4:])
		refused(t, "the check in another order", b, api.ErrSum)
	}
	head := []byte{0xa5, 1, 0, 0, 0, 1, 'x'}
	for i := range len(head) {
		refused(t, "the check of a part", binary.BigEndian.AppendUint32(slices.Clone(head), checkOf(head[:i])), api.ErrSum)
		if i > 0 {
			refused(t, "the check of the rest", binary.BigEndian.AppendUint32(slices.Clone(head), checkOf(head[i:])), api.ErrSum)
		}
	}
	refused(t, "a length of one less", frameOf(1, 1, []byte("ab")), api.ErrSum)
	refused(t, "no check", make([]byte, 10), api.ErrForm)
	refused(t, "a check of zeros", []byte{0xa5, 0, 0, 0, 0, 0, 0, 0, 0, 0}, api.ErrSum)
}

// Each byte of a frame is put to each value: any change is found.
func TestNextOfChangedBytes(t *testing.T) {
	for _, r := range short() {
		b := slices.Concat(mustOne(t, r), spread(20))
		for i, before := range b {
			for c := range 256 {
				b[i] = byte(c)
				holdNext(t, b)
			}
			b[i] = before
		}
	}
}

// Any bytes: all words of those that mean something in a head.
func TestNextOfAnyBytes(t *testing.T) {
	for last, n := [][]byte{nil}, 0; n <= 7; n++ {
		var longer [][]byte
		for _, b := range last {
			holdNext(t, b)
			for _, c := range []byte{0xa5, 0, 1, 0xff} {
				longer = append(longer, append(slices.Clone(b), c))
			}
		}
		last = longer
	}
}

func TestNextIsNewMemory(t *testing.T) {
	for _, r := range records() {
		b := slices.Concat(mustOne(t, r), []byte("behind"))
		before := slices.Clone(b)
		_, one, _, _ := frames.Next(b)
		_, other, _, _ := frames.Next(b)
		spoil(one)
		if !bytes.Equal(b, before) || !bytes.Equal(other, r.B) {
			t.Errorf("%d bytes that were read are seen elsewhere", len(r.B))
		}
		spoil(b)
		if !bytes.Equal(other, r.B) {
			t.Errorf("a frame of %d bytes is seen in what was read from it", len(r.B))
		}
	}
}
