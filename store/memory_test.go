package store_test

import (
	"bytes"
	"slices"
	"testing"

	"icehouse/api"
	"icehouse/disk"
	"icehouse/store"
)

// spoil overwrites a slice up to its capacity.
func spoil(b []byte) {
	b = b[:cap(b)]
	for i := range b {
		b[i] = 0xee
	}
}

// spoilAll overwrites entries, their bytes, and what lies behind both.
func spoilAll(l []api.Entry) {
	for _, e := range l {
		spoil(e.Val.B)
	}
	l = l[:cap(l)]
	for i := range l {
		l[i] = put("spoilt", 1, "spoilt")
	}
}

// made is a store with what it is on paper.
type made struct {
	s *store.Store
	p paper
}

// stores: some that were written, compacted, recovered, or found after a crash.
func stores(t *testing.T) map[string]made {
	l := []api.Entry{put("a", 1, "abc"), put("b", 1, ""), gone("c", 1), put("a", 2, "abcdef"), put("d", 1, "d")}
	written, p := puts(t, l, 3)
	compacted, q := puts(t, l, 3)
	answers(t, "Compact", compacted.Compact(), api.OK)
	q = q.compact()
	more := put("a", 3, "after")
	answers(t, "Put", compacted.Put(more, 2), api.OK)
	return map[string]made{
		"a written store":   {written, p},
		"a compacted store": {compacted, q.put(more, 2)},
		"a recovered store": {recovered(t, "Recover", written.Disk(), 0), p.durable(p.fresh)},
		"a crashed store":   {crashed(t, "Crash", written, 30), p.crash(30)},
		"a snapshot":        {recovered(t, "Recover", diskOf(t, snapFrame(l...), nil), 0), paper{head: snapFrame(l...), kept: l}},
	}
}

// changes: what may be done with a store.
func changes() map[string]func(s *store.Store) {
	return map[string]func(s *store.Store){
		"Put":     func(s *store.Store) { s.Put(put("a", 90, "x"), 1); s.Put(put("zz", 1, "yyyyyyyyyyyyyyyyyyyyy"), 2) },
		"Tick":    func(s *store.Store) { s.Put(put("a", 91, "x"), 1); s.Tick(); s.Put(gone("b", 91), 1) },
		"Compact": func(s *store.Store) { s.Put(put("a", 92, "x"), 1); s.Compact(); s.Put(put("c", 92, "y"), 1) },
		"Crash":   func(s *store.Store) { c, _ := s.Crash(9999); spoilStore(c) },
		"Recover": func(s *store.Store) { r, _, _ := store.Recover(s.Disk()); spoilStore(r) },
		"all":     spoilStore,
	}
}

// Results are new memory: what becomes of them is seen neither in the store nor in
// other results.
func TestResultsAreNewMemory(t *testing.T) {
	for name, m := range stores(t) {
		for i, do := range []func(){
			func() { spoilAll(m.s.All()) },
			func() { spoil(m.s.Get("a").Val.B) },
			func() { spoil(m.s.Newest("a").Val.B); spoil(m.s.Newest("d").Val.B) },
			func() { spoil(m.s.Get("b").Val.B); spoil(m.s.Newest("b").Val.B) },
			func() { spoil(m.s.Disk().Bytes()); m.s.Disk().Replace([]byte("other")) },
			func() { m.s.Disk().Append([]byte("x")); m.s.Disk().Sync() },
		} {
			all, got, newest, d := m.s.All(), m.s.Get("a"), m.s.Newest("a"), m.s.Disk()
			do()
			holds(t, name, m.s, m.p)
			if !alike(all, best(m.p.kept)) || !same(got, of(m.p.kept, "a")) || !same(newest, of(m.p.all(), "a")) {
				t.Errorf("%s: what becomes of result %d is seen in others", name, i)
			}
			holdsDisk(t, name, d, m.p.head, putFrames(m.p.fresh...), m.p.syncs)
		}
		answers(t, "Compact", m.s.Compact(), api.OK)
		holds(t, name+", Compact", m.s, m.p.compact())
		ticks(t, name+", Compact", m.s, m.p.compact())
	}
}

// The bytes of one result share nothing either, nor do two of them.
func TestResultsShareNothing(t *testing.T) {
	for name, m := range stores(t) {
		all := slices.Concat(m.s.All(), m.s.All(), []api.Entry{m.s.Get("a"), m.s.Newest("a"), m.s.Get("a"), m.s.Newest("d"), m.s.Get("d")})
		var want [][]byte
		for _, e := range all {
			want = append(want, bytes.Clone(e.Val.B))
		}
		for i, e := range all {
			spoil(e.Val.B)
			for j := i + 1; j < len(all); j++ {
				if !bytes.Equal(all[j].Val.B, want[j]) {
					t.Errorf("%s: the bytes of result %d are seen in result %d", name, i, j)
				}
			}
		}
		first, second := m.s.All(), m.s.All()
		spoilAll(first)
		if !alike(second, best(m.p.kept)) {
			t.Errorf("%s: the entries of one call are seen in those of another", name)
		}
		holds(t, name, m.s, m.p)
	}
}

// What the store does later is not seen in what it returned before.
func TestResultsStay(t *testing.T) {
	for what, do := range changes() {
		for name, m := range stores(t) {
			all, got, newest, d := m.s.All(), m.s.Get("a"), m.s.Newest("a"), m.s.Disk()
			do(m.s)
			if !alike(all, best(m.p.kept)) || !same(got, of(m.p.kept, "a")) || !same(newest, of(m.p.all(), "a")) {
				t.Errorf("%s, %s: what was returned is now %v, %v and %v", name, what, all, got, newest)
			}
			holdsDisk(t, name, d, m.p.head, putFrames(m.p.fresh...), m.p.syncs)
		}
	}
}

// Acks that were returned are neither changed by later Puts, nor is it seen in the
// store what becomes of them.
func TestAcksAreNewMemory(t *testing.T) {
	s, p := store.New(), paper{}
	var before [][]api.Ack
	for i := range 20 {
		for j := range i % 5 {
			e := put("k", 1, "v")
			answers(t, "Put", s.Put(e, 10*i+j), api.OK)
			p = p.put(e, 10*i+j)
		}
		l, e := s.Tick()
		answers(t, "Tick", e, api.OK)
		if !slices.Equal(l, p.acks) {
			t.Errorf("Tick returns %v, not %v", l, p.acks)
		}
		before = append(before, l[:cap(l)])
		if i%3 == 0 {
			for j := range before[i] {
				before[i][j] = ack(i, "spoilt", tag(i, i, i))
			}
		}
		p = p.tick()
		holds(t, "Tick", s, p)
	}
	for i, l := range before {
		for j, a := range l {
			switch {
			case i%3 == 0 && a != ack(i, "spoilt", tag(i, i, i)):
				t.Errorf("Ack %d of Tick %d is now %v", j, i, a)
			case i%3 > 0 && a != (api.Ack{}) && a != ack(10*i+j, "k", tag(1, 1, 0)):
				t.Errorf("Ack %d of Tick %d is now %v", j, i, a)
			}
		}
	}
}

// An argument is neither changed nor kept, nor is what lies behind it.
func TestArgumentsAreLeftAlone(t *testing.T) {
	whole := []byte("abcbehind")
	e := api.Entry{Key: "k", Tag: tag(1, 1, 1), Val: api.Val{Has: true, B: whole[:3]}}
	s := store.New()
	answers(t, "Put", s.Put(e, 1), api.OK)
	if string(whole) != "abcbehind" {
		t.Errorf("the argument is now %q", whole)
	}
	spoil(whole)
	p := paper{}.put(val("k", tag(1, 1, 1), "abc"), 1)
	holds(t, "Put", s, p)
	answers(t, "Put of the same tag", s.Put(e, 1), api.OK)
	p = p.put(val("k", tag(1, 1, 1), "other"), 1)
	holds(t, "Put of the same tag", s, p)
	p = ticks(t, "Put", s, p)
	spoil(whole)
	answers(t, "Compact", s.Compact(), api.OK)
	holds(t, "Compact", s, p.compact())
}

// A disk is neither changed by Recover nor by what the store does, nor does the store
// see what becomes of the disk; the same disk may be recovered again.
func TestDiskIsLeftAlone(t *testing.T) {
	l := []api.Entry{put("a", 1, "x"), put("b", 2, "y"), put("a", 3, "z")}
	b := append(snapFrame(l[0]), putFrames(l[1:]...)...)
	torn := slices.Concat(b[30:], []byte{0xa5, 9, 9})
	p := paper{head: b, kept: l}
	for what, do := range changes() {
		d := diskOf(t, b[:30], torn)
		first := recovered(t, "Recover", d, 3)
		second := recovered(t, "Recover again", d, 3)
		do(first)
		holdsDisk(t, what, d, b[:30], torn, 0)
		holds(t, what+" of another store", second, p)
		d.Append([]byte("more"))
		d.Sync()
		d.Replace([]byte("other"))
		holds(t, what+" and another disk", second, p)
		third := recovered(t, "Recover", diskOf(t, b, nil), 0)
		do(third)
		if !alike(first.All(), third.All()) || !bytes.Equal(first.Disk().Bytes(), third.Disk().Bytes()) {
			t.Errorf("%s: the store sees what becomes of its disk", what)
		}
	}
}

// Whatever happens to one store is not seen in others: that of its crash, those
// recovered from its disk, and new ones.
func TestStoresAreIndependent(t *testing.T) {
	for what, do := range changes() {
		for name, m := range stores(t) {
			name = name + ", " + what
			found := m.p.durable(m.p.fresh)
			second := crashed(t, name, m.s, 9999)
			third := recovered(t, name, m.s.Disk(), 0)
			do(second)
			holds(t, name+" of what was found", m.s, m.p)
			holds(t, name+" of what was found", third, found)
			do(third)
			holds(t, name+" of what was recovered", m.s, m.p)
			fourth := crashed(t, name, m.s, 9999)
			do(m.s)
			holds(t, name, fourth, found)
			do(store.New())
			holds(t, name+" of a new store", store.New(), paper{})
		}
	}
}

// What a store returned may be given to it again.
func TestOwnResults(t *testing.T) {
	s, p := puts(t, many(), 5)
	for _, e := range slices.Concat(s.All(), []api.Entry{s.Newest("a"), s.Get("b")}) {
		answers(t, "Put of an own result", s.Put(e, 2), api.OK)
		p = p.put(e, 2)
		e.Tag.Seq += 1000
		answers(t, "Put of a changed result", s.Put(e, 3), api.OK)
		p = p.put(api.Entry{Key: e.Key, Tag: e.Tag, Val: api.Val{Has: e.Val.Has, B: bytes.Clone(e.Val.B)}}, 3)
		spoil(e.Val.B)
	}
	holds(t, "own results", s, p)
	ticks(t, "own results", s, p)
}

// A copy of the disk is a disk of its own, each time.
func TestDiskIsCopied(t *testing.T) {
	for name, m := range stores(t) {
		if m.s.Disk() == m.s.Disk() {
			t.Errorf("%s: a disk is returned twice", name)
		}
		for _, do := range []func(d *disk.Disk){
			func(d *disk.Disk) { d.Append([]byte("xyz")); d.Sync(); d.Append([]byte("0123456789012345")) },
			func(d *disk.Disk) { d.Crash(3); d.Append([]byte("xyz")) },
			func(d *disk.Disk) { d.Replace(nil) },
		} {
			other := m.s.Disk()
			do(m.s.Disk())
			holds(t, name, m.s, m.p)
			holdsDisk(t, name, other, m.p.head, putFrames(m.p.fresh...), m.p.syncs)
		}
	}
}
