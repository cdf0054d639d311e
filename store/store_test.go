package store_test

import (
	"bytes"
	"cmp"
	"encoding/binary"
	"hash/fnv"
	"slices"
	"strings"
	"testing"

	"icehouse/api"
	"icehouse/disk"
	"icehouse/store"
)

// num: a number that isn't negative, by the words of layer 2.
func num(n int) []byte {
	var b []byte
	for ; n > 0; n /= 256 {
		b = append([]byte{byte(n % 256)}, b...)
	}
	return append([]byte{byte(len(b))}, b...)
}

func row(b []byte) []byte {
	return append(num(len(b)), b...)
}

// bytesOf: an entry by the words of layer 3.
func bytesOf(e api.Entry) []byte {
	out := slices.Concat(row([]byte(e.Key)), num(e.Tag.Seq), num(e.Tag.Who), num(e.Tag.Op))
	if !e.Val.Has {
		return append(out, 0)
	}
	return slices.Concat(out, []byte{1}, row(e.Val.B))
}

// frameOf: a frame by the words of layers 4 and 5.
func frameOf(kind byte, b []byte) []byte {
	out := binary.BigEndian.AppendUint32([]byte{0xa5, kind}, uint32(len(b)))
	out = append(out, b...)
	h := fnv.New64a()
	h.Write(out)
	return binary.BigEndian.AppendUint32(out, uint32(h.Sum64()>>32)^uint32(h.Sum64()))
}

// putFrames: what Put writes of each entry.
func putFrames(l ...api.Entry) []byte {
	var out []byte
	for _, e := range l {
		out = append(out, frameOf(1, bytesOf(e))...)
	}
	return out
}

func rowsOf(l ...api.Entry) []byte {
	var out []byte
	for _, e := range l {
		out = append(out, row(bytesOf(e))...)
	}
	return out
}

// snapFrame: what Compact writes of all of them.
func snapFrame(l ...api.Entry) []byte {
	return frameOf(0, rowsOf(l...))
}

func tag(seq, who, op int) api.Tag {
	return api.Tag{Seq: seq, Who: who, Op: op}
}

func val(key string, t api.Tag, v string) api.Entry {
	return api.Entry{Key: key, Tag: t, Val: api.Val{Has: true, B: []byte(v)}}
}

// put and gone: entries of node 1 with a value and without one.
func put(key string, seq int, v string) api.Entry {
	return val(key, tag(seq, 1, 0), v)
}

func gone(key string, seq int) api.Entry {
	return api.Entry{Key: key, Tag: tag(seq, 1, 0)}
}

func ack(who int, key string, t api.Tag) api.Ack {
	return api.Ack{Who: who, Key: key, Tag: t}
}

func same(a, b api.Entry) bool {
	return a.Key == b.Key && a.Tag == b.Tag && a.Val.Has == b.Val.Has && bytes.Equal(a.Val.B, b.Val.B)
}

func alike(a, b []api.Entry) bool {
	return slices.EqualFunc(a, b, same)
}

func order(a, b api.Tag) int {
	return cmp.Or(cmp.Compare(a.Seq, b.Seq), cmp.Compare(a.Who, b.Who), cmp.Compare(a.Op, b.Op))
}

// best: for each key the entry with the greatest tag, the last one of several with the
// same, by rising keys.
func best(l []api.Entry) []api.Entry {
	var out []api.Entry
	for _, e := range l {
		i, found := slices.BinarySearchFunc(out, e.Key, func(x api.Entry, key string) int { return strings.Compare(x.Key, key) })
		switch {
		case !found:
			out = slices.Insert(out, i, e)
		case order(e.Tag, out[i].Tag) >= 0:
			out[i] = e
		}
	}
	return out
}

// of: the best entry of a key.
func of(l []api.Entry, key string) api.Entry {
	for _, e := range best(l) {
		if e.Key == key {
			return e
		}
	}
	return api.Entry{Key: key}
}

// paper is a store by the chapter's words: the durable bytes of its disk, the entries
// in these, those that are written and not durable, and the pending Acks.
type paper struct {
	head  []byte
	kept  []api.Entry
	fresh []api.Entry
	acks  []api.Ack
	syncs int
}

func (p paper) all() []api.Entry {
	return slices.Concat(p.kept, p.fresh)
}

func (p paper) put(e api.Entry, who int) paper {
	if order(e.Tag, of(p.all(), e.Key).Tag) > 0 {
		p.fresh = slices.Concat(p.fresh, []api.Entry{e})
	}
	p.acks = slices.Concat(p.acks, []api.Ack{ack(who, e.Key, e.Tag)})
	return p
}

func (p paper) tick() paper {
	if len(p.fresh) > 0 {
		p.syncs++
	}
	return p.durable(p.fresh)
}

// durable: of what was written l lasts, and nothing else remains.
func (p paper) durable(l []api.Entry) paper {
	return paper{slices.Concat(p.head, putFrames(l...)), slices.Concat(p.kept, l), nil, nil, p.syncs}
}

func (p paper) compact() paper {
	l := best(p.all())
	return paper{snapFrame(l...), l, nil, p.acks, p.syncs}
}

// crash: of the tail the records remain that are complete in its first bytes.
func (p paper) crash(most int) paper {
	n := 0
	for n < len(p.fresh) && len(putFrames(p.fresh[:n+1]...)) <= most {
		n++
	}
	return p.durable(p.fresh[:n])
}

// holds reports a fault unless the store is as on paper, by all that it tells without
// being changed.
func holds(t *testing.T, name string, s *store.Store, p paper) {
	t.Helper()
	if s == nil {
		t.Fatalf("%s: there is no store", name)
	}
	if got, want := s.All(), best(p.kept); !alike(got, want) {
		t.Errorf("%s: the durable entries are %.300v, not %.300v", name, got, want)
	}
	if got, want := s.Waiting(), len(p.acks); got != want {
		t.Errorf("%s: %d Acks are pending, not %d", name, got, want)
	}
	for _, key := range append(keysOf(p.all()), "a", "b", "", "no such key") {
		if got, want := s.Get(key), of(p.kept, key); !same(got, want) {
			t.Errorf("%s: Get(%q) is %.100v, not %.100v", name, key, got, want)
		}
		if got, want := s.Newest(key), of(p.all(), key); !same(got, want) {
			t.Errorf("%s: Newest(%q) is %.100v, not %.100v", name, key, got, want)
		}
	}
	holdsDisk(t, name, s.Disk(), p.head, putFrames(p.fresh...), p.syncs)
}

func keysOf(l []api.Entry) []string {
	var out []string
	for _, e := range best(l) {
		out = append(out, e.Key)
	}
	return out
}

func holdsDisk(t *testing.T, name string, d *disk.Disk, lasting, tail []byte, syncs int) {
	t.Helper()
	if d == nil {
		t.Errorf("%s: there is no disk", name)
		return
	}
	if got := d.Lasting(); !bytes.Equal(got, lasting) {
		t.Errorf("%s: the disk has %d durable bytes %.60x, not %d %.60x", name, len(got), got, len(lasting), lasting)
	}
	if got := d.Tail(); !bytes.Equal(got, tail) {
		t.Errorf("%s: the disk has a tail of %d bytes %.60x, not %d %.60x", name, len(got), got, len(tail), tail)
	}
	if got := d.Syncs(); got != syncs {
		t.Errorf("%s: the disk has %d Syncs, not %d", name, got, syncs)
	}
}

// answers reports a fault unless a call returned that error.
func answers(t *testing.T, name string, got, want api.Errno) {
	t.Helper()
	if got != want {
		t.Errorf("%s: error %d, not %d", name, got, want)
	}
}

// ticks reports a fault unless Tick tells what is pending on paper, and returns what
// is on paper then.
func ticks(t *testing.T, name string, s *store.Store, p paper) paper {
	t.Helper()
	l, e := s.Tick()
	answers(t, name+", Tick", e, api.OK)
	if !slices.Equal(l, p.acks) {
		t.Errorf("%s: Tick returns %v, not %v", name, l, p.acks)
	}
	p = p.tick()
	holds(t, name+", Tick", s, p)
	return p
}

// puts: a store, and its paper, to which the entries were put for node 1, the first
// lasting ones made durable by one Tick, if there are any.
func puts(t *testing.T, l []api.Entry, lasting int) (*store.Store, paper) {
	t.Helper()
	s, p := store.New(), paper{}
	for _, e := range l[:lasting] {
		answers(t, "Put", s.Put(e, 1), api.OK)
		p = p.put(e, 1)
	}
	if lasting > 0 {
		p = ticks(t, "Put", s, p)
	}
	for _, e := range l[lasting:] {
		answers(t, "Put", s.Put(e, 1), api.OK)
		p = p.put(e, 1)
	}
	return s, p
}

// many: entries that show the edges of an order of keys and of tags, each of which is
// written when they are put in this order.
func many() []api.Entry {
	return []api.Entry{
		put("b", 1, "first"), put("a", 1, ""), gone("c", 2), put("\xff", 300, "\x00"), put("ab", 7, "\xa5\x01"),
		val("b", tag(1, 1, 1), "b"), val("a", tag(1, 2, 0), "second"), put("c", 3, "back"), gone("ab", 8), put("\x00", 9, "zero"),
	}
}

func TestNew(t *testing.T) {
	s := store.New()
	holds(t, "New", s, paper{})
	ticks(t, "New", s, paper{})
	if store.New() == store.New() {
		t.Error("New returns a store twice")
	}
}

// The zero Store has no entries either.
func TestZero(t *testing.T) {
	holds(t, "the zero store", &store.Store{}, paper{})
	ticks(t, "the zero store", &store.Store{}, paper{})
	var s store.Store
	answers(t, "Put", s.Put(put("a", 1, "x"), 2), api.OK)
	p := paper{}.put(put("a", 1, "x"), 2)
	holds(t, "the zero store, Put", &s, p)
	c, e := s.Crash(99)
	answers(t, "Crash", e, api.OK)
	holds(t, "the zero store, Put, Crash", c, p.crash(99))
	answers(t, "Compact", s.Compact(), api.OK)
	holds(t, "the zero store, Put, Compact", &s, p.compact())
	ticks(t, "the zero store, Put, Compact", &s, p.compact())
	var empty store.Store
	answers(t, "Compact", empty.Compact(), api.OK)
	holds(t, "the zero store, Compact", &empty, paper{}.compact())
}

// Whatever else is wrong, ErrNil comes first; without an error there is nothing.
func TestNil(t *testing.T) {
	var s *store.Store
	answers(t, "Put", s.Put(put("a", 1, "x"), 1), api.ErrNil)
	answers(t, "Put of no entry", s.Put(api.Entry{}, 1), api.ErrNil)
	answers(t, "Put for nobody", s.Put(put("a", 1, "x"), -1), api.ErrNil)
	answers(t, "Compact", s.Compact(), api.ErrNil)
	l, e := s.Tick()
	answers(t, "Tick", e, api.ErrNil)
	if len(l) != 0 {
		t.Errorf("Tick of nil returns %v", l)
	}
	for _, kept := range []int{0, 1, -1} {
		c, e := s.Crash(kept)
		answers(t, "Crash", e, api.ErrNil)
		if c != nil {
			t.Errorf("Crash(%d) of nil returns a store", kept)
		}
	}
	if got := s.Get("a"); !same(got, api.Entry{}) {
		t.Errorf("Get of nil returns %v", got)
	}
	if got := s.Newest("a"); !same(got, api.Entry{}) {
		t.Errorf("Newest of nil returns %v", got)
	}
	if l := s.All(); len(l) != 0 {
		t.Errorf("nil has the entries %v", l)
	}
	if n := s.Waiting(); n != 0 {
		t.Errorf("of nil %d Acks are pending", n)
	}
	if s.Disk() != nil {
		t.Error("nil has a disk")
	}
}

// Example 1 of the chapter.
func TestExample(t *testing.T) {
	s := store.New()
	answers(t, "Put", s.Put(put("k", 3, "x"), 1), api.OK)
	answers(t, "Put", s.Put(put("k", 2, "y"), 1), api.OK)
	l, e := s.Tick()
	answers(t, "Tick", e, api.OK)
	if want := []api.Ack{ack(1, "k", tag(3, 1, 0)), ack(1, "k", tag(2, 1, 0))}; !slices.Equal(l, want) {
		t.Errorf("Tick returns %v, not %v", l, want)
	}
	if got, want := s.Get("k"), put("k", 3, "x"); !same(got, want) {
		t.Errorf("Get returns %v, not %v", got, want)
	}
}

// Of two entries of a key the one with the greater tag is kept, of the same tags the
// first; that of another key has nothing to do with it. Both are acknowledged with
// their own tags.
func TestPutOfTwo(t *testing.T) {
	l := []api.Tag{tag(1, 0, 0), tag(1, 0, 1), tag(1, 0, 9), tag(1, 1, 0), tag(1, 2, 1), tag(2, 0, 0), tag(2, 1, 1), tag(256, 0, 0)}
	for i, first := range l {
		for j, second := range l {
			for _, between := range []bool{false, true} {
				s := store.New()
				a, b := val("k", first, "first"), val("k", second, "second")
				answers(t, "Put", s.Put(a, 5), api.OK)
				p := paper{}.put(a, 5)
				if between {
					p = ticks(t, "Put", s, p)
				}
				answers(t, "Put", s.Put(b, 6), api.OK)
				p = p.put(b, 6)
				holds(t, "Put of two", s, p)
				answers(t, "Put", s.Put(val("j", tag(1, 0, 0), "other"), 7), api.OK)
				p = p.put(val("j", tag(1, 0, 0), "other"), 7)
				want := a
				if j > i {
					want = b
				}
				if got := s.Newest("k"); !same(got, want) {
					t.Errorf("of %v and %v the newest is %v", a, b, got)
				}
				ticks(t, "Put of two", s, p)
			}
		}
	}
}

// An entry without a value is kept like any other.
func TestPutWithoutValue(t *testing.T) {
	s := store.New()
	p := paper{}
	for _, e := range []api.Entry{gone("a", 1), put("a", 2, "x"), gone("a", 3), gone("a", 2), put("a", 3, "y"), put("b", 1, ""), gone("b", 2)} {
		answers(t, "Put", s.Put(e, 1), api.OK)
		p = p.put(e, 1)
		holds(t, "Put", s, p)
		c, _ := s.Crash(9999)
		holds(t, "Put and Crash", c, p.crash(9999))
	}
	ticks(t, "Put", s, p)
}

// wrong: entries that may not be put.
func wrong() map[string]api.Entry {
	return map[string]api.Entry{
		"nothing":                   {},
		"no key":                    put("", 1, "x"),
		"too long a key":            put(strings.Repeat("k", api.MaxKey+1), 1, "x"),
		"too long a value":          put("a", 1, strings.Repeat("v", api.MaxVal+1)),
		"bytes without a value":     {Key: "a", Tag: tag(1, 1, 1), Val: api.Val{B: []byte("x")}},
		"no tag":                    {Key: "a"},
		"no tag with a value":       val("a", tag(0, 0, 0), "x"),
		"no Seq, but a Who":         {Key: "a", Tag: tag(0, 1, 0)},
		"no Seq, but an Op":         {Key: "a", Tag: tag(0, 0, 1)},
		"no Seq, but Who and value": val("a", tag(0, 1, 0), "x"),
		"a negative Seq":            put("a", -1, "x"),
		"a negative Who":            val("a", tag(1, -1, 0), "x"),
		"a negative Op":             val("a", tag(1, 0, -1), "x"),
		"too great a Seq":           put("a", api.MaxSeq+1, "x"),
		"too great a Who":           val("a", tag(1, api.MaxID+1, 0), "x"),
		"too great an Op":           val("a", tag(1, 0, api.MaxID+1), "x"),
	}
}

func TestPutOfWhatMayNotBe(t *testing.T) {
	s, p := puts(t, many(), 5)
	for name, e := range wrong() {
		answers(t, name, s.Put(e, 1), api.ErrArg)
		answers(t, name+", for nobody", s.Put(e, -1), api.ErrArg)
		holds(t, name, s, p)
	}
	for _, who := range []int{-1, api.MaxID + 1, -1 << 63, 1<<63 - 1} {
		answers(t, "Put for nobody", s.Put(put("a", 99, "x"), who), api.ErrArg)
		answers(t, "Put of an old entry for nobody", s.Put(put("a", 1, "x"), who), api.ErrArg)
		holds(t, "Put for nobody", s, p)
	}
	ticks(t, "Puts that fail", s, p)
}

func TestPutAtTheEdges(t *testing.T) {
	s, p := store.New(), paper{}
	for i, e := range []api.Entry{
		put(strings.Repeat("k", api.MaxKey), 1, "x"),
		put("v", 1, strings.Repeat("v", api.MaxVal)),
		put(strings.Repeat("x", api.MaxKey), api.MaxSeq, strings.Repeat("\xa5", api.MaxVal)),
		val("max", tag(api.MaxSeq, api.MaxID, api.MaxID), "x"),
		val("min", tag(1, 0, 0), ""),
		{Key: "min", Tag: tag(1, 0, 1)},
	} {
		who := []int{0, 1, api.MaxID}[i%3]
		answers(t, "Put", s.Put(e, who), api.OK)
		p = p.put(e, who)
		holds(t, "Put", s, p)
	}
	ticks(t, "Put", s, p)
}

// Acks come in the order of the Puts, each once, whoever asks for them and whatever
// was written.
func TestTick(t *testing.T) {
	s, p := store.New(), paper{}
	p = ticks(t, "nothing", s, p)
	for i, e := range slices.Concat(many(), many(), many()[:3]) {
		answers(t, "Put", s.Put(e, 20-i%7), api.OK)
		p = p.put(e, 20-i%7)
	}
	p = ticks(t, "many Puts", s, p)
	if p.syncs != 1 {
		t.Errorf("%d Syncs", p.syncs)
	}
	p = ticks(t, "nothing", s, p)
	answers(t, "Put", s.Put(many()[0], 4), api.OK)
	p = p.put(many()[0], 4)
	p = ticks(t, "a Put that writes nothing", s, p)
	answers(t, "Put", s.Put(put("b", 2, "x"), 4), api.OK)
	p = p.put(put("b", 2, "x"), 4)
	ticks(t, "a Put that writes", s, p)
}

// The order of keys is that of their bytes, whatever the order of Puts.
func TestAll(t *testing.T) {
	keys := []string{"b", "a", "\xff", "\x00", "aa", "é", "Z", "a\x00", "\xff\xff", "z", "0", "10", "9", strings.Repeat("a", 250)}
	want := []string{"\x00", "0", "10", "9", "Z", "a", "a\x00", "aa", strings.Repeat("a", 250), "b", "z", "é", "\xff", "\xff\xff"}
	for turn := range keys {
		s := store.New()
		for _, key := range slices.Concat(keys[turn:], keys[:turn]) {
			answers(t, "Put", s.Put(put(key, 1, key), 1), api.OK)
		}
		if l := s.All(); len(l) != 0 {
			t.Errorf("before Tick the entries are %v", l)
		}
		if _, e := s.Tick(); e != api.OK {
			t.Errorf("Tick: error %d", e)
		}
		var got []string
		for _, e := range s.All() {
			got = append(got, e.Key)
			if !same(e, put(e.Key, 1, e.Key)) {
				t.Errorf("of %q there is %v", e.Key, e)
			}
		}
		if !slices.Equal(got, want) {
			t.Errorf("the keys are %q, not %q", got, want)
		}
	}
}

// Keys to which nothing was written, also such as may not be.
func TestGetOfOtherKeys(t *testing.T) {
	for lasting := range 2 {
		s, _ := puts(t, many()[:1], lasting)
		for _, key := range []string{"", "a", "B", "b\x00", "bb", strings.Repeat("b", 251), "\xff"} {
			want := api.Entry{Key: key}
			if got := s.Get(key); !same(got, want) {
				t.Errorf("Get(%q) is %v", key, got)
			}
			if got := s.Newest(key); !same(got, want) {
				t.Errorf("Newest(%q) is %v", key, got)
			}
		}
	}
}

func TestCompact(t *testing.T) {
	for lasting := range len(many()) + 1 {
		s, p := puts(t, many(), lasting)
		answers(t, "Compact", s.Compact(), api.OK)
		p = p.compact()
		holds(t, "Compact", s, p)
		answers(t, "Compact", s.Compact(), api.OK)
		holds(t, "Compact twice", s, p)
		answers(t, "Put", s.Put(put("b", 1, "old"), 8), api.OK)
		answers(t, "Put", s.Put(put("b", 2, "new"), 9), api.OK)
		p = p.put(put("b", 1, "old"), 8).put(put("b", 2, "new"), 9)
		holds(t, "Compact and Put", s, p)
		c, e := s.Crash(0)
		answers(t, "Crash", e, api.OK)
		holds(t, "Compact, Put and Crash", c, p.crash(0))
		p = ticks(t, "Compact and Put", s, p)
		answers(t, "Compact", s.Compact(), api.OK)
		holds(t, "Compact at last", s, p.compact())
	}
}

func TestCompactOfNothing(t *testing.T) {
	s := store.New()
	answers(t, "Compact", s.Compact(), api.OK)
	holds(t, "Compact", s, paper{}.compact())
	c, e := s.Crash(0)
	answers(t, "Crash", e, api.OK)
	holds(t, "Compact and Crash", c, paper{}.compact())
}

// The bytes on the disk, written out.
func TestDisk(t *testing.T) {
	s := store.New()
	answers(t, "Put", s.Put(val("k", tag(5, 7, 2), "v"), 1), api.OK)
	first := []byte{
		0xa5, 1, 0, 0, 0, 13,
		1, 1, 'k', 1, 5, 1, 7, 1, 2, 1, 1, 1, 'v',
		0xe2, 0x0e, 0x42, 0x6c,
	}
	holdsDisk(t, "Put", s.Disk(), nil, first, 0)
	if _, e := s.Tick(); e != api.OK {
		t.Errorf("Tick: error %d", e)
	}
	holdsDisk(t, "Tick", s.Disk(), first, nil, 1)
	answers(t, "Put", s.Put(val("k", tag(5, 7, 1), "w"), 1), api.OK)
	holdsDisk(t, "Put of an old entry", s.Disk(), first, nil, 1)
	answers(t, "Put", s.Put(api.Entry{Key: "k", Tag: tag(300, 0, 0)}, 1), api.OK)
	holdsDisk(t, "Put of a new entry", s.Disk(), first, frameOf(1, []byte{1, 1, 'k', 2, 1, 44, 0, 0, 0}), 1)
	answers(t, "Put", s.Put(val("j", tag(1, 0, 0), ""), 1), api.OK)
	answers(t, "Compact", s.Compact(), api.OK)
	holdsDisk(t, "Compact", s.Disk(), frameOf(0, []byte{
		1, 9, 1, 1, 'j', 1, 1, 0, 0, 1, 0,
		1, 9, 1, 1, 'k', 2, 1, 44, 0, 0, 0,
	}), nil, 1)
}
