package replica_test

import (
	"math"
	"strconv"
	"strings"
	"testing"

	"icehouse/api"
	"icehouse/msgs"
)

// keyAt: keys of four bytes that rise.
func keyAt(i int) string {
	return strconv.Itoa(1000000 + i)[3:]
}

// largest is a place with as much room as there may be.
func largest(batch, chunk int) api.Place {
	return api.Place{ID: node, Room: api.Room{Cells: api.MaxCells, Bytes: api.MaxDisk, Buckets: api.MaxBuckets}, Batch: batch, Chunk: chunk}
}

// As many cells as there may be, in messages of as many as there may be, and of one.
func TestMostCells(t *testing.T) {
	for _, chunk := range []int{1, 63, 64} {
		n := nodeAt(t, largest(64, chunk))
		var l []api.Entry
		for i := range api.MaxCells {
			l = append(l, put(keyAt(i), 1, "v"))
		}
		for op := range 5 {
			part := l[op*1000 : min(op*1000+1000, len(l))]
			m := installOf(1, 0, op, op == 4, part...)
			if op < 4 {
				handles(t, n, m)
			} else {
				handles(t, n, m, readyOf(m))
			}
		}
		m := keepOf(1, put("k", 1, ""))
		handles(t, n, m, noRoomOf(m))
		var want []api.Msg
		for i := 0; i < len(l); i += chunk {
			end := min(i+chunk, len(l))
			want = append(want, dumpOf(sealOf(2, 3), i/chunk, end == len(l), l[i:end]...))
		}
		handles(t, n, sealOf(2, 3), want...)
		for round := range 65 {
			want := []api.Msg{beatOf(1)}
			for i := range 64 {
				want = append(want, flushOf(1, l[(round*64+i)%len(l)]))
			}
			sends(t, "Tick", n.Tick(), want...)
		}
	}
}

// The longest entries, as many as there is room for.
func TestLongestEntries(t *testing.T) {
	n := nodeAt(t, largest(64, 64))
	v := strings.Repeat("v", api.MaxVal)
	var l []api.Entry
	for i := range 69 {
		l = append(l, put(keyAt(i)+strings.Repeat("k", api.MaxKey-4), api.MaxSeq, v))
	}
	m := installOf(api.MaxSeq, api.MaxSeq, 0, true, l...)
	handles(t, n, m, readyOf(m))
	holds(t, n, l...)
	m = keepOf(api.MaxSeq, put("z", api.MaxSeq, v))
	handles(t, n, m, noRoomOf(m))
	m = sealOf(api.MaxSeq, api.MaxSeq)
	handles(t, n, m, dumpOf(m, 0, false, l[:64]...), dumpOf(m, 1, true, l[64:]...))
	stands(t, n, api.Active, api.MaxSeq)
	for _, m := range n.Handle(m) {
		if b, e := msgs.Bytes(m); e != api.OK || len(b) > 64*(api.MaxVal+400) {
			t.Errorf("%d bytes, error %d", len(b), e)
		}
	}
}

// The greatest numbers; from the greatest epoch on there is none.
func TestGreatestNumbers(t *testing.T) {
	n := active(t, placeOf(9, 99, 2, 2), api.MaxSeq-1)
	m := sealOf(api.MaxSeq, api.MaxSeq-1)
	handles(t, n, m, dumpOf(m, 0, true))
	handles(t, n, sealOf(api.MaxSeq, api.MaxSeq-2))
	m = sealOf(api.MaxSeq, api.MaxSeq)
	handles(t, n, m, dumpOf(m, 0, true))
	handles(t, n, installOf(api.MaxSeq, api.MaxSeq-1, 0, true))
	m = installOf(api.MaxSeq, api.MaxSeq, 0, true)
	handles(t, n, m, readyOf(m))
	stands(t, n, api.Active, api.MaxSeq)
	handles(t, n, sealOf(api.MaxSeq+1, 0))
	m = askOf(api.MaxSeq, "k")
	m.Op = api.MaxSeq
	handles(t, n, m, toldOf(m, unwritten("k"), false, 2))
}

// A last message with a very great Op is waited for, and not counted up to.
func TestGreatestOps(t *testing.T) {
	n := nodeAt(t, placeOf(9, 99, 2, 2))
	for _, op := range []int{api.MaxSeq, 0, api.MaxSeq - 1, 1 << 31, 1 << 32, 1<<32 + 1, 1 << 39} {
		handles(t, n, installOf(1, 0, op, op == api.MaxSeq))
	}
	stands(t, n, api.Apart, 0)
	for _, op := range []int{api.MaxSeq + 1, -1, math.MinInt, math.MaxInt} {
		handles(t, n, installOf(1, 0, op, true))
	}
	m := installOf(1, 0, 1, true)
	handles(t, n, m, readyOf(m))
}

// Very many messages, from the last one down to the first, and up.
func TestManyOps(t *testing.T) {
	const most = 200000
	down, up := nodeAt(t, placeOf(9, 99, 2, 2)), nodeAt(t, placeOf(9, 99, 2, 2))
	for i := range most {
		handles(t, down, installOf(1, 0, most-i, i == 0))
		handles(t, up, installOf(1, 0, i, false))
	}
	stands(t, down, api.Apart, 0)
	stands(t, up, api.Apart, 0)
	m := installOf(1, 0, 0, false)
	handles(t, down, m, readyOf(m))
	m = installOf(1, 0, most, true)
	handles(t, up, m, readyOf(m))
}
