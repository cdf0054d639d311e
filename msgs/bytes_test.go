package msgs_test

import (
	"bytes"
	"slices"
	"testing"

	"icehouse/api"
	"icehouse/msgs"
)

// written is an encoding that does not call the program.
func written(m api.Msg) []byte {
	var out []byte
	num := func(n int) {
		var digits []byte
		for ; n > 0; n /= 256 {
			digits = append([]byte{byte(n % 256)}, digits...)
		}
		out = append(append(out, byte(len(digits))), digits...)
	}
	truth := func(t bool) {
		out = append(out, map[bool]byte{false: 0, true: 1}[t])
	}
	one := func(e api.Entry) {
		num(len(e.Key))
		out = append(out, e.Key...)
		num(e.Tag.Seq)
		num(e.Tag.Who)
		num(e.Tag.Op)
		truth(e.Val.Has)
		if e.Val.Has {
			num(len(e.Val.B))
			out = append(out, e.Val.B...)
		}
	}
	num(m.Kind)
	num(m.From)
	num(m.To)
	num(m.Epoch)
	num(m.Op)
	for _, letter := range letters(m.Kind) {
		switch letter {
		case 'N':
			num(m.N)
		case 'F':
			truth(m.Flag)
		case 'E':
			one(m.E)
		case 'L':
			num(len(m.L))
			for _, e := range m.L {
				one(e)
			}
		case 'R':
			num(m.R.Each)
			num(m.R.Keep)
			num(len(m.R.Nodes))
			for _, node := range m.R.Nodes {
				num(node)
			}
		}
	}
	return out
}

func mustBytes(t *testing.T, m api.Msg) []byte {
	t.Helper()
	b, e := msgs.Bytes(m)
	if e != api.OK {
		t.Fatalf("Bytes of a message of kind %d: error %d", m.Kind, e)
	}
	return b
}

// Encodings that are written out by hand, one of each kind at least.
func TestBytes(t *testing.T) {
	e := entry("k", tag(5, 2, 1), val("xy"))
	eBytes := []byte{1, 1, 'k', 1, 5, 1, 2, 1, 1, 1, 1, 2, 'x', 'y'}
	j := api.Entry{Key: "j"}
	jBytes := []byte{1, 1, 'j', 0, 0, 0, 0}
	for _, c := range []struct {
		m    api.Msg
		want []byte
	}{
		{api.Msg{Kind: api.Beat, From: 3}, []byte{1, 17, 1, 3, 0, 0, 0}},
		{api.Msg{Kind: api.Beat}, []byte{1, 17, 0, 0, 0, 0}},
		{api.Msg{Kind: api.Ready, From: 1, To: 2, Epoch: 3, Op: 4}, []byte{1, 15, 1, 1, 1, 2, 1, 3, 1, 4}},
		{
			api.Msg{Kind: api.Ready, From: api.MaxID, To: 256, Epoch: api.MaxSeq, Op: 65536},
			[]byte{1, 15, 3, 15, 255, 255, 2, 1, 0, 5, 255, 255, 255, 255, 255, 3, 1, 0, 0},
		},
		{api.Msg{Kind: api.Ask, From: 6, To: 7, Epoch: 8, Op: 9, E: e}, slices.Concat([]byte{1, 1, 1, 6, 1, 7, 1, 8, 1, 9}, eBytes)},
		{api.Msg{Kind: api.Told, N: 300, E: e}, slices.Concat([]byte{1, 2, 0, 0, 0, 0, 2, 1, 44, 0}, eBytes)},
		{api.Msg{Kind: api.Told, Flag: true, E: j}, slices.Concat([]byte{1, 2, 0, 0, 0, 0, 0, 1}, jBytes)},
		{api.Msg{Kind: api.Keep, E: e}, slices.Concat([]byte{1, 3, 0, 0, 0, 0}, eBytes)},
		{api.Msg{Kind: api.Kept, E: j}, slices.Concat([]byte{1, 4, 0, 0, 0, 0}, jBytes)},
		{api.Msg{Kind: api.NoRoom, E: j}, slices.Concat([]byte{1, 5, 0, 0, 0, 0}, jBytes)},
		{api.Msg{Kind: api.Other, N: 8}, []byte{1, 6, 0, 0, 0, 0, 1, 8}},
		{api.Msg{Kind: api.Look, E: j}, slices.Concat([]byte{1, 7, 0, 0, 0, 0}, jBytes)},
		{api.Msg{Kind: api.Found, E: e}, slices.Concat([]byte{1, 8, 0, 0, 0, 0}, eBytes)},
		{api.Msg{Kind: api.Fill, N: 1, E: e}, slices.Concat([]byte{1, 9, 0, 0, 0, 0, 1, 1}, eBytes)},
		{api.Msg{Kind: api.Flush, E: e}, slices.Concat([]byte{1, 10, 0, 0, 0, 0}, eBytes)},
		{api.Msg{Kind: api.Flushed, E: j}, slices.Concat([]byte{1, 11, 0, 0, 0, 0}, jBytes)},
		{api.Msg{Kind: api.Seal, N: 2}, []byte{1, 12, 0, 0, 0, 0, 1, 2}},
		{api.Msg{Kind: api.Dump, N: 3, Flag: true}, []byte{1, 13, 0, 0, 0, 0, 1, 3, 1, 0}},
		{api.Msg{Kind: api.Dump, L: []api.Entry{e, j}}, slices.Concat([]byte{1, 13, 0, 0, 0, 0, 0, 0, 1, 2}, eBytes, jBytes)},
		{api.Msg{Kind: api.Install, N: 3, L: []api.Entry{j}}, slices.Concat([]byte{1, 14, 0, 0, 0, 0, 1, 3, 0, 1, 1}, jBytes)},
		{api.Msg{Kind: api.News, R: ringOf(3, 2, 0, 5, 256)}, []byte{1, 16, 0, 0, 0, 0, 1, 3, 1, 2, 1, 3, 0, 1, 5, 2, 1, 0}},
	} {
		before := taken(c.m)
		if got, e := msgs.Bytes(c.m); e != api.OK || !bytes.Equal(got, c.want) {
			t.Errorf("kind %d: %v, error %d, not %v", c.m.Kind, got, e, c.want)
		}
		if !bytes.Equal(written(c.m), c.want) {
			t.Errorf("kind %d: the test itself writes %v", c.m.Kind, written(c.m))
		}
		if !alike(c.m, before) {
			t.Errorf("Bytes changed a message of kind %d", before.Kind)
		}
	}
}

func TestBytesOfAll(t *testing.T) {
	for i, m := range rightMsgs() {
		if got, e := msgs.Bytes(m); e != api.OK || !bytes.Equal(got, written(m)) {
			t.Errorf("message %d of kind %d: %x, error %d", i, m.Kind, got, e)
		}
	}
}

func TestBytesOfWrongMessages(t *testing.T) {
	for _, c := range wrongMsgs() {
		if got, e := msgs.Bytes(c.m); e != api.ErrArg || len(got) != 0 {
			t.Errorf("kind %d, %s: %x, error %d", c.m.Kind, c.name, got, e)
		}
	}
}

// What was written is read back unchanged, and no two messages have one encoding.
func TestReadBack(t *testing.T) {
	seen := map[string]api.Msg{}
	for i, m := range rightMsgs() {
		b := mustBytes(t, m)
		before := slices.Clone(b)
		if got, e := msgs.Read(b); e != api.OK || !alike(got, m) || !msgs.Same(got, m) {
			t.Errorf("message %d of kind %d is read as %v, error %d", i, m.Kind, got, e)
		}
		if !bytes.Equal(b, before) {
			t.Errorf("Read changed the bytes of message %d", i)
		}
		if other, found := seen[string(b)]; found && !alike(other, m) {
			t.Errorf("message %d has the encoding of another one", i)
		}
		seen[string(b)] = m
	}
}

// As many entries as there may be, and the longest ones.
func TestLongLists(t *testing.T) {
	short := make([]api.Entry, api.MaxList)
	for i := range short {
		short[i] = entry(long(1+i%api.MaxKey), tag(1+i, i, 0), val(long(i%7)))
	}
	great := slices.Repeat([]api.Entry{entry(long(api.MaxKey), tag(api.MaxSeq, api.MaxID, api.MaxID), val(long(api.MaxVal)))}, api.MaxList)
	for i, l := range [][]api.Entry{short, short[:api.MaxList-1], great} {
		m := api.Msg{Kind: api.Install, From: 1, To: 2, Epoch: 3, Op: 4, N: 5, Flag: true, L: l}
		b := mustBytes(t, m)
		if i < 2 && !bytes.Equal(b, written(m)) {
			t.Errorf("list %d is written otherwise", i)
		}
		if got, e := msgs.Read(b); e != api.OK || !alike(got, m) || !msgs.Same(got, m) || !msgs.Same(msgs.Copy(m), m) {
			t.Errorf("list %d is not read back: error %d", i, e)
		}
		if got, e := msgs.Read(b[:len(b)-1]); e != api.ErrShort || !isZero(got) {
			t.Errorf("list %d, cut: error %d", i, e)
		}
	}
}

func TestBytesAreNewMemory(t *testing.T) {
	for _, kind := range allKinds() {
		m := usual(kind)
		before := taken(m)
		one, other := mustBytes(t, m), mustBytes(t, m)
		want := slices.Clone(one)
		spoil(one, 0xee)
		if !bytes.Equal(other, want) || !bytes.Equal(mustBytes(t, m), want) || !alike(m, before) {
			t.Errorf("the bytes of kind %d are seen elsewhere", kind)
		}
	}
}

// spoil overwrites a slice up to its capacity.
func spoil[T any](l []T, with T) {
	l = l[:cap(l)]
	for i := range l {
		l[i] = with
	}
}
