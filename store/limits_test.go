package store_test

import (
	"strconv"
	"strings"
	"testing"

	"icehouse/api"
	"icehouse/disk"
	"icehouse/store"
)

// ofSize: an entry of which what is measured has so many bytes.
func ofSize(t *testing.T, key string, seq, size int, measure func(e api.Entry) int) api.Entry {
	t.Helper()
	n := size - measure(put(key, seq, ""))
	for ; n >= 0; n-- {
		if e := put(key, seq, strings.Repeat("v", n)); measure(e) == size {
			return e
		}
	}
	t.Fatalf("no entry of %q has %d bytes", key, size)
	return api.Entry{}
}

func frameSize(e api.Entry) int {
	return len(putFrames(e))
}

func rowSize(e api.Entry) int {
	return len(rowsOf(e))
}

// full: a store whose disk has room for so many bytes, and its paper. Half of it is
// durable.
func full(t *testing.T, room int) (*store.Store, paper) {
	t.Helper()
	const big = 60000
	var l []api.Entry
	size := 0
	for i := 0; size+2*big < api.MaxDisk-room; i++ {
		e := ofSize(t, "k"+strconv.Itoa(100+i), 1, big, frameSize)
		l, size = append(l, e), size+big
	}
	half := (api.MaxDisk - room - size) / 2
	l = append(l, ofSize(t, "y", 1, half, frameSize), ofSize(t, "z", 1, api.MaxDisk-room-size-half, frameSize))
	return puts(t, l, len(l)/2)
}

// What has no room is ErrLong, and as if it had not been put; what has just enough is
// put.
func TestPutOnAFullDisk(t *testing.T) {
	for _, room := range []int{0, 1, 21, 22, 24, 500} {
		s, p := full(t, room)
		if got := api.MaxDisk - len(s.Disk().Bytes()); got != room {
			t.Fatalf("there is room for %d bytes, not %d", got, room)
		}
		for _, e := range []api.Entry{put("new", 1, strings.Repeat("v", room)), put("k100", 2, strings.Repeat("v", 600)), put("z", 9, strings.Repeat("v", api.MaxVal))} {
			answers(t, "Put", s.Put(e, 3), api.ErrLong)
		}
		holds(t, "a full disk", s, p)
		answers(t, "Put of what may not be", s.Put(api.Entry{Key: "k"}, 3), api.ErrArg)
		answers(t, "Put for nobody", s.Put(put("new", 1, strings.Repeat("v", room)), -1), api.ErrArg)
		old := put("k100", 1, strings.Repeat("w", api.MaxVal))
		answers(t, "Put of an old entry", s.Put(old, 4), api.OK)
		p = p.put(old, 4)
		if room >= frameSize(put("new", 1, "")) {
			e := ofSize(t, "new", 1, room, frameSize)
			answers(t, "Put of what just fits", s.Put(e, 5), api.OK)
			p = p.put(e, 5)
			answers(t, "Put of one more", s.Put(put("new", 2, ""), 5), api.ErrLong)
		}
		answers(t, "Compact", s.Compact(), api.ErrLong)
		holds(t, "a full disk", s, p)
		ticks(t, "a full disk", s, p)
	}
}

// An entry that has no room is not there, so that what is less than it is put yet.
func TestPutAfterErrLong(t *testing.T) {
	s, p := full(t, 100)
	answers(t, "Put", s.Put(put("new", 9, strings.Repeat("v", 99)), 3), api.ErrLong)
	e := put("new", 1, "x")
	answers(t, "Put", s.Put(e, 3), api.OK)
	p = p.put(e, 3)
	holds(t, "a Put after ErrLong", s, p)
	ticks(t, "a Put after ErrLong", s, p)
}

// A full disk is recovered.
func TestRecoverOfAFullDisk(t *testing.T) {
	s, p := full(t, 2)
	d := s.Disk()
	answers(t, "Append", d.Append([]byte{0xa5, 1}), api.OK)
	r := recovered(t, "a full disk", d, 2)
	p = p.durable(p.fresh)
	holds(t, "a full disk", r, p)
	answers(t, "Put", r.Put(put("new", 1, ""), 1), api.ErrLong)
	holds(t, "a full disk", r, p)
}

// A snapshot has at most MaxRecord bytes, of durable entries and others together;
// otherwise nothing changes.
func TestCompactAtTheEdge(t *testing.T) {
	first := put("b", 1, strings.Repeat("v", 40000))
	for more := -1; more <= 2; more++ {
		second := ofSize(t, "a", 1, api.MaxRecord-rowSize(first)+more, rowSize)
		for lasting := range 3 {
			s, p := puts(t, []api.Entry{first, second}, lasting)
			if more > 0 {
				answers(t, "Compact", s.Compact(), api.ErrLong)
			} else {
				answers(t, "Compact", s.Compact(), api.OK)
				p = p.compact()
			}
			holds(t, "Compact at the edge", s, p)
			holds(t, "Compact at the edge and Crash", crashed(t, "Crash", s, 0), p.crash(0))
			smaller := put("b", 2, "small")
			answers(t, "Put", s.Put(smaller, 2), api.OK)
			p = p.put(smaller, 2)
			answers(t, "Compact", s.Compact(), api.OK)
			p = p.compact()
			holds(t, "Compact of less", s, p)
			ticks(t, "Compact of less", s, p)
		}
	}
}

// The rows are counted, not the entries: many small ones may be too many, while many
// versions of one are one.
func TestCompactOfMany(t *testing.T) {
	s, p := store.New(), paper{}
	for i := range 5000 {
		e := put("k", i+1, "v")
		answers(t, "Put", s.Put(e, 1), api.OK)
		p.fresh, p.acks = append(p.fresh, e), append(p.acks, ack(1, "k", e.Tag))
	}
	answers(t, "Compact", s.Compact(), api.OK)
	p = p.compact()
	holds(t, "many versions", s, p)

	size := rowSize(put("k1000", 1, "v"))
	most := (api.MaxRecord - rowSize(put("k", 5000, "v"))) / size
	for i := range most {
		answers(t, "Put", s.Put(put("k"+strconv.Itoa(1000+i), 1, "v"), 1), api.OK)
	}
	answers(t, "Compact", s.Compact(), api.OK)
	if got := len(s.All()); got != most+1 {
		t.Errorf("there are %d entries, not %d", got, most+1)
	}
	answers(t, "Put", s.Put(put("k"+strconv.Itoa(1000+most), 1, "v"), 1), api.OK)
	answers(t, "Compact", s.Compact(), api.ErrLong)
	if got := len(s.All()); got != most+1 {
		t.Errorf("after ErrLong there are %d entries, not %d", got, most+1)
	}
	if got, want := s.Waiting(), 5000+most+1; got != want {
		t.Errorf("%d Acks are pending, not %d", got, want)
	}
}

// A disk that was full has room again after Compact.
func TestCompactMakesRoom(t *testing.T) {
	d := disk.New()
	e := put("k", 1, strings.Repeat("v", api.MaxVal))
	for d.Append(putFrames(e)) == api.OK {
		e.Tag.Seq++
	}
	s := recovered(t, "a full disk", d, 0)
	answers(t, "Put", s.Put(e, 1), api.ErrLong)
	answers(t, "Compact", s.Compact(), api.OK)
	answers(t, "Put", s.Put(e, 1), api.OK)
	ticks(t, "Compact of a full disk", s, paper{
		head:  snapFrame(s.Get("k")),
		kept:  []api.Entry{put("k", e.Tag.Seq-1, string(e.Val.B))},
		fresh: []api.Entry{e},
		acks:  []api.Ack{ack(1, "k", e.Tag)},
	})
}
