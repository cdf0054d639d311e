package chief

import (
	"slices"
	"testing"

	"icehouse/api"
	"icehouse/pack"
	"icehouse/wal"
)

// These tests are within the package, as no call writes a record that can't be, and no disk
// has room for all numbers.

func record(kind byte, numbers ...int) api.Record {
	r := api.Record{Kind: kind}
	for _, n := range numbers {
		r.B = append(r.B, pack.Num(n)...)
	}
	return r
}

// behind returns what a crash finds when these records are in the log.
func behind(t *testing.T, l ...api.Record) *Chief {
	t.Helper()
	c := &Chief{each: 1, keep: 1, chunk: 1, log: *wal.New()}
	for _, r := range l {
		if e := c.log.Append(r.Kind, r.B); e != api.OK {
			t.Fatalf("Append: error %d", e)
		}
	}
	c.log.Sync()
	found, e := c.Crash(0)
	if e != api.OK {
		t.Fatalf("Crash: error %d", e)
	}
	return found
}

// same holds all that can be seen of two chiefs against each other, but their disks.
func same(a, b *Chief) bool {
	sameTerm := func(a, b term) bool {
		return a.epoch == b.epoch && slices.Equal(a.ring.Nodes, b.ring.Nodes) && a.ring.Each == b.ring.Each && a.ring.Keep == b.ring.Keep
	}
	return slices.Equal(a.roles, b.roles) && sameTerm(a.established, b.established) && sameTerm(a.decided, b.decided) &&
		a.tries == b.tries && a.phase == b.phase
}

// Records that cannot be are as if they were not there, wherever they are.
func TestRecordsThatCannotBe(t *testing.T) {
	right := []api.Record{
		record(2, 2, 1), record(2, 3, 2), record(2, 4, 1), record(1, 1, 1, 2, 2, 4), record(4, 1), record(3, 1),
		record(1, 2, 1, 1, 4), record(4, 2), record(4, 2),
	}
	wrong := []api.Record{
		{Kind: 1}, {Kind: 2}, {Kind: 3}, {Kind: 4}, record(5), record(5, 1), record(255, 1), record(6, 2, 1),
		{Kind: 3, B: []byte{9}}, {Kind: 3, B: []byte{1}}, {Kind: 4, B: []byte{1, 0}}, {Kind: 2, B: append(record(2, 5, 1).B, 1)},
		record(2, 5), record(2, 5, 1, 1), record(2, 5, 0), record(2, 5, 3), record(2, 1, 1), record(2, 0, 1), record(2, 9, 1),
		record(1, 3), record(1, 3, 1), record(1, 3, 1, 1), record(1, 9, 1, 1, 4), record(1, 0, 1, 1, 4),
		record(1, 1, 0, 1, 2), record(1, 2, 1, 2, 4), record(1, 3, 1, 1, 4, 4), record(1, 3, 1, 1, 4, 2), record(1, 3, 65, 1, 2),
		record(1, 1), record(1, 2), record(2, 1), record(2, 2), record(5, 2), record(2, 1, 1, 1, 4), record(2, 2, 1, 1, 4), record(2, 3, 1, 1, 4),
		record(3, 1, 1, 1, 4), record(3, 2, 1, 1, 4), record(3, 3, 1, 1, 4), record(4, 1, 1, 1, 4), record(4, 2, 1, 1, 4), record(4, 3, 1, 1, 4),
		record(3, 9), record(3, 1, 1), record(3, 0, 0), record(4, 9), record(4, 2, 2), record(4, -1), record(3, -1),
	}
	for n := range len(right) + 1 {
		want := behind(t, right[:n]...)
		for _, w := range wrong {
			for i := range n + 1 {
				if got := behind(t, slices.Insert(slices.Clone(right[:n]), i, w)...); !same(got, want) {
					t.Errorf("%v behind %d of %d records: %v, not %v", w, i, n, got, want)
				}
			}
		}
	}
}

// The records themselves are not the less for what stands between them.
func TestRecordsThatCan(t *testing.T) {
	c := behind(t, record(7, 1), record(2, 2, 1), record(2, 3, 3), record(2, 3, 2), record(1, 1, 1, 1, 2), record(1, 1, 1, 1, 3), record(4, 1), record(3, 2))
	if !slices.Equal(c.roles, []int{api.Replica, api.Agent}) || c.tries != 3 || c.phase != api.Installing || c.decided.epoch != 1 || c.established.epoch != 0 {
		t.Errorf("%v", c)
	}
}

func TestLastNumber(t *testing.T) {
	c := &Chief{roles: make([]int, api.MaxID-2), log: *wal.New()}
	for _, want := range []int{api.MaxID, 0, 0} {
		n, e := c.Issue(api.Agent)
		if n != want || (e == api.ErrLong) != (want == 0) {
			t.Errorf("%d, not %d, and error %d", n, want, e)
		}
		if _, e := c.Issue(0); e != api.ErrArg {
			t.Errorf("no role: error %d", e)
		}
	}
	if len(c.log.Records()) != 1 || c.Issued() != api.MaxID-1 {
		t.Errorf("%d records, %d issued", len(c.log.Records()), c.Issued())
	}
}
