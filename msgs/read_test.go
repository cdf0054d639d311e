package msgs_test

import (
	"bytes"
	"math"
	"slices"
	"testing"

	"icehouse/api"
	"icehouse/msgs"
	"icehouse/pack"
	"icehouse/tags"
)

type wrongBytes struct {
	name string
	b    []byte
	e    api.Errno
}

func runWrong(t *testing.T, cases []wrongBytes) {
	t.Helper()
	for _, c := range cases {
		if got, e := msgs.Read(c.b); e != c.e || !isZero(got) {
			t.Errorf("%s: %v, error %d, not %d", c.name, got, e, c.e)
		}
		if _, e := expected(c.b); e != c.e {
			t.Errorf("%s: the test itself expects %d", c.name, e)
		}
	}
}

func TestReadNothing(t *testing.T) {
	runWrong(t, []wrongBytes{{"nil", nil, api.ErrShort}, {"no bytes", []byte{}, api.ErrShort}})
}

// Each beginning of an encoding is too short.
func TestReadCutShort(t *testing.T) {
	for i, m := range rightMsgs() {
		b := mustBytes(t, m)
		for n := range b {
			if got, e := msgs.Read(b[:n]); e != api.ErrShort || !isZero(got) {
				t.Errorf("message %d of kind %d, %d bytes: error %d", i, m.Kind, n, e)
			}
		}
	}
}

func TestReadWithBytesBehind(t *testing.T) {
	for i, m := range rightMsgs() {
		b := mustBytes(t, m)
		for _, behind := range [][]byte{{0}, {1}, {255}, {0, 0, 0}, b} {
			if got, e := msgs.Read(slices.Concat(b, behind)); e != api.ErrForm || !isZero(got) {
				t.Errorf("message %d of kind %d and %d bytes behind: error %d", i, m.Kind, len(behind), e)
			}
		}
	}
}

// A kind that does not exist is wrong at once, whether there is anything behind it or
// not.
func TestReadWrongKinds(t *testing.T) {
	for _, kind := range noKinds() {
		for _, behind := range [][]byte{nil, {0}, {0, 0, 0, 0}, {9}, mustBytes(t, usual(api.Told))[2:]} {
			runWrong(t, []wrongBytes{{"no kind", slices.Concat(pack.Num(kind), behind), api.ErrForm}})
		}
	}
	runWrong(t, []wrongBytes{
		{"a kind that is cut", []byte{1}, api.ErrShort},
		{"a great kind that is cut", []byte{8, 255, 255}, api.ErrShort},
		{"a kind with a zero more", []byte{2, 0, 17, 0, 0, 0, 0}, api.ErrForm},
		{"kind 0 that is written out", []byte{1, 0, 0, 0, 0, 0}, api.ErrForm},
		{"a kind of nine bytes", []byte{9}, api.ErrForm},
	})
}

// badNums: what is no encoding of a number from 0 to most, and the first error in it.
func badNums(most int) []wrongBytes {
	return []wrongBytes{
		{"one more", pack.Num(most + 1), api.ErrForm},
		{"the greatest number", pack.Num(math.MaxInt), api.ErrForm},
		{"-1", pack.Num(-1), api.ErrForm},
		{"the least number", pack.Num(math.MinInt), api.ErrForm},
		{"nine bytes", []byte{9, 1, 1, 1, 1, 1, 1, 1, 1, 1}, api.ErrForm},
		{"a zero more", []byte{2, 0, 1}, api.ErrForm},
		{"a zero that is written out", []byte{1, 0}, api.ErrForm},
		{"nothing", nil, api.ErrShort},
		{"one byte missing", []byte{2, 1}, api.ErrShort},
	}
}

// number is a number of a message, with the greatest one that is read there, and a right
// one, with what stands between it and the next.
type number struct {
	name string
	most int
	good []byte
}

// runNumbers makes each number in turn wrong, with the fields behind it, with wrong
// ones behind it, and with nothing.
func runNumbers(t *testing.T, l []number) {
	var before []byte
	for i, n := range l {
		var after []byte
		for _, other := range l[i+1:] {
			after = append(after, other.good...)
		}
		for _, bad := range badNums(n.most) {
			name := n.name + ": " + bad.name
			runWrong(t, []wrongBytes{{name + ", and no more", slices.Concat(before, bad.b), bad.e}})
			if bad.e == api.ErrForm {
				runWrong(t, []wrongBytes{
					{name, slices.Concat(before, bad.b, after), api.ErrForm},
					{name + ", and bytes behind", slices.Concat(before, bad.b, after, []byte{1, 1}), api.ErrForm},
				})
			}
		}
		before = append(before, n.good...)
	}
}

func headNumbers(kind int) []number {
	return []number{
		{"Kind", kindCount, pack.Num(kind)},
		{"From", api.MaxID, pack.Num(3)},
		{"To", api.MaxID, pack.Num(api.MaxID)},
		{"Epoch", api.MaxSeq, pack.Num(0)},
		{"Op", api.MaxSeq, pack.Num(api.MaxSeq)},
	}
}

func TestReadWrongNumbers(t *testing.T) {
	for _, kind := range []int{api.Beat, api.Ready} {
		runNumbers(t, headNumbers(kind))
	}
	for _, kind := range []int{api.Other, api.Seal} {
		runNumbers(t, append(headNumbers(kind), number{"N", api.MaxSeq, pack.Num(7)}))
	}
	e, _ := tags.Bytes(full(api.Fill).E)
	runNumbers(t, append(headNumbers(api.Fill), number{"N", api.MaxSeq, slices.Concat(pack.Num(7), e)}))
	for _, kind := range []int{api.Dump, api.Install} {
		runNumbers(t, append(headNumbers(kind),
			number{"N", api.MaxSeq, append(pack.Num(7), 1)},
			number{"the length of L", api.MaxList, slices.Concat(pack.Num(2), e, e)}))
	}
	runNumbers(t, append(headNumbers(api.News),
		number{"Each", api.MaxEach, pack.Num(64)},
		number{"Keep", api.MaxMembers, pack.Num(1)},
		number{"the number of nodes", api.MaxMembers, pack.Num(2)},
		number{"the first node", api.MaxID, pack.Num(0)},
		number{"the second node", api.MaxID, pack.Num(api.MaxID)}))
}

func TestReadWrongFlags(t *testing.T) {
	e, _ := tags.Bytes(full(api.Told).E)
	for _, flag := range []byte{2, 3, 17, 128, 255} {
		for _, behind := range [][]byte{nil, e, {0}, {9}} {
			for _, kind := range []int{api.Told, api.Dump, api.Install} {
				b := slices.Concat([]byte{1, byte(kind), 0, 0, 0, 0, 0, flag}, behind)
				runWrong(t, []wrongBytes{{"no truth", b, api.ErrForm}})
			}
		}
	}
}

// entryBytes writes any entry, also one that may not be.
func entryBytes(e api.Entry) []byte {
	return written(api.Msg{Kind: api.Ask, E: e})[6:]
}

// writable: those of the wrong entries whose fields have encodings, so that what is
// wrong with them is only seen when all is read.
func writable() []api.Entry {
	return []api.Entry{
		{},
		entry("", tag(1, 0, 0), val("v")),
		entry(long(api.MaxKey+1), tag(1, 0, 0), val("v")),
		entry(long(api.MaxField), tag(1, 0, 0), val("v")),
		entry("k", tag(1, 0, 0), val(long(api.MaxVal+1))),
		entry("k", tag(1, 0, 0), val(long(api.MaxField))),
		entry("k", tag(0, 0, 0), val("")),
		entry("k", tag(0, 0, 0), val("v")),
		entry("k", tag(0, 1, 0), api.Val{}),
		entry("k", tag(0, 0, 1), api.Val{}),
	}
}

// An entry that may not be is found out when all of it is read: what is missing comes
// first.
func TestReadWrongEntries(t *testing.T) {
	head := []byte{1, api.Ask, 0, 0, 0, 0}
	for _, e := range writable() {
		b := entryBytes(e)
		for _, behind := range [][]byte{nil, {0}, {9}} {
			runWrong(t, []wrongBytes{{"E may not be", slices.Concat(head, b, behind), api.ErrForm}})
		}
		runWrong(t, []wrongBytes{{"E may not be, and is cut", slices.Concat(head, b[:len(b)-1]), api.ErrShort}})
	}
	for _, e := range []api.Entry{
		entry("k", tag(api.MaxSeq+1, 0, 0), val("v")),
		entry("k", tag(1, api.MaxID+1, 0), val("v")),
		entry("k", tag(1, 0, api.MaxID+1), val("v")),
	} {
		b := entryBytes(e)
		runWrong(t, []wrongBytes{
			{"a tag out of its range", slices.Concat(head, b), api.ErrForm},
			{"a tag out of its range, cut in the value", slices.Concat(head, b[:len(b)-1]), api.ErrForm},
			{"a tag out of its range, cut behind that number", slices.Concat(head, b[:10]), api.ErrForm},
		})
	}
	runWrong(t, []wrongBytes{
		{"a key that is no row", slices.Concat(head, pack.Num(api.MaxField+1), make([]byte, api.MaxField+20)), api.ErrForm},
		{"a key of negative length", slices.Concat(head, pack.Num(-1), []byte{0, 0, 0, 0}), api.ErrForm},
		{"no truth", slices.Concat(head, []byte{1, 'k', 0, 0, 0, 2}), api.ErrShort},
		{"a wrong truth", slices.Concat(head, []byte{1, 1, 'k', 0, 0, 0, 2}), api.ErrForm},
	})
}

// In a list the first wrong entry is the first error, also if others are missing
// behind it.
func TestReadWrongLists(t *testing.T) {
	head := []byte{1, api.Dump, 0, 0, 0, 0, 0, 1}
	good := entryBytes(entry("k", tag(5, 2, 1), val("xy")))
	for _, e := range writable() {
		bad := entryBytes(e)
		runWrong(t, []wrongBytes{
			{"the only one", slices.Concat(head, pack.Num(1), bad), api.ErrForm},
			{"the first of two", slices.Concat(head, pack.Num(2), bad, good), api.ErrForm},
			{"the first of two, and no more", slices.Concat(head, pack.Num(2), bad), api.ErrForm},
			{"the second of two", slices.Concat(head, pack.Num(2), good, bad), api.ErrForm},
			{"the second of a thousand, and no more", slices.Concat(head, pack.Num(1000), good, bad), api.ErrForm},
			{"the second of two, cut", slices.Concat(head, pack.Num(2), good, bad[:len(bad)-1]), api.ErrShort},
			{"the first of two, cut", slices.Concat(head, pack.Num(2), bad[:len(bad)-1]), api.ErrShort},
		})
	}
	runWrong(t, []wrongBytes{
		{"one is missing", slices.Concat(head, pack.Num(3), good, good), api.ErrShort},
		{"all are missing", slices.Concat(head, pack.Num(1000)), api.ErrShort},
		{"more than are told", slices.Concat(head, pack.Num(2), good, good, good), api.ErrForm},
		{"some, though there are none", slices.Concat(head, pack.Num(0), good), api.ErrForm},
		{"too many, and they are there", slices.Concat(head, pack.Num(1001), bytes.Repeat(good, 1001)), api.ErrForm},
		{"too many, and they are missing", slices.Concat(head, pack.Num(1001)), api.ErrForm},
		{"far too many", slices.Concat(head, pack.Num(math.MaxInt)), api.ErrForm},
		{"fewer than none", slices.Concat(head, pack.Num(-1), good), api.ErrForm},
	})
}

func ringBytes(r api.Ring) []byte {
	return written(api.Msg{Kind: api.News, R: r})
}

// A ring whose numbers are in their ranges, but that may not be, is found out when all
// is read: what is missing comes first.
func TestReadWrongRings(t *testing.T) {
	for _, r := range []api.Ring{
		{},
		ringOf(1, 1),
		ringOf(0, 1, 1),
		ringOf(1, 0, 1),
		ringOf(1, 2, 1),
		ringOf(1, api.MaxMembers, 1, 2, 3),
		ringOf(1, 1, 4, 4),
		ringOf(1, 1, 4, 2),
		ringOf(api.MaxEach, 1, api.MaxID, 0),
	} {
		b := ringBytes(r)
		runWrong(t, []wrongBytes{
			{"R may not be", b, api.ErrForm},
			{"R may not be, and bytes behind", append(slices.Clone(b), 1), api.ErrForm},
			{"R may not be, and is cut", b[:len(b)-1], api.ErrShort},
		})
	}
	runWrong(t, []wrongBytes{
		{"Each 0, and no more", []byte{1, 16, 0, 0, 0, 0, 0}, api.ErrShort},
		{"Each 0, then Keep 65", []byte{1, 16, 0, 0, 0, 0, 0, 1, 65}, api.ErrForm},
		{"Each 65, and no more", []byte{1, 16, 0, 0, 0, 0, 1, 65}, api.ErrForm},
		{"Keep 0 of no nodes", []byte{1, 16, 0, 0, 0, 0, 1, 1, 0, 0}, api.ErrForm},
		{"65 nodes, and no more", []byte{1, 16, 0, 0, 0, 0, 1, 1, 1, 1, 1, 65}, api.ErrForm},
		{"a node is missing", []byte{1, 16, 0, 0, 0, 0, 1, 1, 1, 1, 1, 2, 1, 5}, api.ErrShort},
		{"two that do not rise, and one is missing", []byte{1, 16, 0, 0, 0, 0, 1, 1, 1, 1, 1, 3, 1, 5, 1, 4}, api.ErrShort},
		{"65 nodes", ringBytes(ringOf(1, 1, many(0, 65)...)), api.ErrForm},
		{"a node that is too great", ringBytes(ringOf(1, 1, api.MaxID+1)), api.ErrForm},
		{"such a one, and the next is missing", slices.Concat([]byte{1, 16, 0, 0, 0, 0, 1, 1, 1, 1, 1, 2}, pack.Num(api.MaxID+1)), api.ErrForm},
	})
}

// What a kind has is not read of another one.
func TestReadFieldsOfOtherKinds(t *testing.T) {
	for _, kind := range allKinds() {
		for _, other := range allKinds() {
			b := mustBytes(t, usual(other))
			b[1] = byte(kind)
			got, e := msgs.Read(b)
			if same := letters(kind) == letters(other); same != (e == api.OK) || same && got.Kind != kind {
				t.Errorf("kind %d with the fields of %d: kind %d, error %d", kind, other, got.Kind, e)
			}
		}
	}
}

func TestReadIsNewMemory(t *testing.T) {
	for _, kind := range allKinds() {
		m := usual(kind)
		b := mustBytes(t, m)
		before := slices.Clone(b)
		one, _ := msgs.Read(b)
		other, _ := msgs.Read(b)
		ruin(one)
		if !bytes.Equal(b, before) || !alike(other, m) {
			t.Errorf("kind %d: what was read is seen elsewhere", kind)
		}
		spoil(b, 0xee)
		if !alike(other, m) {
			t.Errorf("kind %d: the bytes are seen in what was read from them", kind)
		}
	}
}
