package store_test

import (
	"slices"
	"testing"

	"icehouse/api"
	"icehouse/disk"
	"icehouse/store"
)

// diskOf: a disk with those durable bytes and that tail.
func diskOf(t *testing.T, lasting, tail []byte) *disk.Disk {
	t.Helper()
	d, e := disk.Of(lasting)
	answers(t, "Of", e, api.OK)
	answers(t, "Append to a disk", d.Append(tail), api.OK)
	return d
}

// recovered reports a fault unless Recover cuts off so many bytes, and returns its
// store.
func recovered(t *testing.T, name string, d *disk.Disk, cut int) *store.Store {
	t.Helper()
	s, n, e := store.Recover(d)
	if e != api.OK || s == nil {
		t.Fatalf("%s: error %d", name, e)
	}
	if n != cut {
		t.Errorf("%s: %d bytes were cut off, not %d", name, n, cut)
	}
	return s
}

// refuses reports a fault unless Recover returns that error and nothing else.
func refuses(t *testing.T, name string, d *disk.Disk, want api.Errno) {
	t.Helper()
	s, n, e := store.Recover(d)
	answers(t, name, e, want)
	if s != nil || n != 0 {
		t.Errorf("%s: beside an error there is a store, or %d", name, n)
	}
}

// recovers reports a fault unless a disk with these bytes, however many of them are
// durable, has the entries l, and nothing is cut off.
func recovers(t *testing.T, name string, b []byte, l ...api.Entry) {
	t.Helper()
	for _, lasting := range []int{0, len(b) / 2, len(b)} {
		s := recovered(t, name, diskOf(t, b[:lasting], b[lasting:]), 0)
		p := paper{head: b, kept: l}
		holds(t, name, s, p)
		ticks(t, name, s, p)
	}
}

func TestRecoverOfNoDisk(t *testing.T) {
	refuses(t, "Recover of nil", nil, api.ErrNil)
}

func TestRecoverOfNothing(t *testing.T) {
	recovers(t, "an empty disk", nil)
	s := recovered(t, "the zero disk", &disk.Disk{}, 0)
	holds(t, "the zero disk", s, paper{})
	s = recovered(t, "no frame", diskOf(t, []byte("none"), nil), 4)
	holds(t, "no frame", s, paper{})
	s = recovered(t, "no frame in the tail", diskOf(t, nil, []byte{0xa5}), 1)
	holds(t, "no frame in the tail", s, paper{})
}

func TestRecoverOfRecords(t *testing.T) {
	recovers(t, "one record", putFrames(many()[:1]...), many()[0])
	recovers(t, "many records", putFrames(many()...), many()...)
	l := slices.Clone(many())
	slices.Reverse(l)
	recovers(t, "many records the other way", putFrames(l...), l...)
}

func TestRecoverOfASnapshot(t *testing.T) {
	recovers(t, "an empty snapshot", snapFrame())
	recovers(t, "a snapshot of one", snapFrame(many()[0]), many()[0])
	recovers(t, "a snapshot of several", snapFrame(many()...), many()...)
	l := slices.Clone(many())
	slices.Reverse(l)
	recovers(t, "a snapshot in another order", snapFrame(l...), l...)
	recovers(t, "an empty snapshot and records", append(snapFrame(), putFrames(l...)...), l...)
	recovers(t, "a snapshot and records", append(snapFrame(l[:6]...), putFrames(l[6:]...)...), l...)
	recovers(t, "a snapshot and later records", append(snapFrame(many()[:6]...), putFrames(many()[6:]...)...), many()...)
}

// Among all entries of a key that with the greatest tag is taken, and of several with
// the same tag the last one, wherever they stand.
func TestRecoverTakesTheGreatest(t *testing.T) {
	l := []api.Entry{put("k", 1, "a"), put("k", 2, "b"), put("k", 1, "c"), put("k", 2, "d"), gone("k", 2)}
	for _, a := range l {
		for _, b := range l {
			for _, c := range l {
				all := []api.Entry{a, b, c}
				recovers(t, "records", putFrames(all...), all...)
				recovers(t, "a snapshot", snapFrame(all...), all...)
				recovers(t, "a snapshot and records", append(snapFrame(a), putFrames(b, c)...), all...)
				recovers(t, "a snapshot and a record", append(snapFrame(a, b), putFrames(c)...), all...)
			}
		}
	}
	s := recovered(t, "the last one", diskOf(t, putFrames(l...), nil), 0)
	if got := s.Get("k"); !same(got, gone("k", 2)) {
		t.Errorf("the last one is %v", got)
	}
}

// Whatever stands before the last snapshot is ignored, if it is a frame at all.
func TestRecoverIgnoresWhatIsBefore(t *testing.T) {
	after := append(snapFrame(put("a", 1, "x")), putFrames(put("b", 2, "y"))...)
	for name, before := range map[string][]byte{
		"greater entries":         putFrames(put("a", 9, "old"), put("c", 9, "old")),
		"another snapshot":        snapFrame(put("a", 9, "old"), put("c", 9, "old")),
		"a snapshot of something": frameOf(0, []byte("something")),
		"records of other kinds":  append(frameOf(2, []byte("other")), frameOf(255, nil)...),
		"a record of something":   frameOf(1, []byte("something")),
		"an entry without a tag":  putFrames(api.Entry{Key: "a"}),
	} {
		recovers(t, name, slices.Concat(before, after), put("a", 1, "x"), put("b", 2, "y"))
		recovers(t, name+" before an empty snapshot", append(before, snapFrame()...))
	}
}

// An entry of a snapshot may have no tag: it is one of All, and any other one of its
// key is greater, or the last one.
func TestRecoverOfEntriesWithoutTags(t *testing.T) {
	none := api.Entry{Key: "a"}
	recovers(t, "no tag", snapFrame(none), none)
	recovers(t, "no tag twice", snapFrame(none, none), none)
	recovers(t, "no tag among others", snapFrame(put("b", 1, "x"), none, api.Entry{Key: "c"}), put("b", 1, "x"), none, api.Entry{Key: "c"})
	recovers(t, "no tag before another", snapFrame(none, put("a", 1, "x")), put("a", 1, "x"))
	recovers(t, "no tag behind another", snapFrame(put("a", 1, "x"), none), put("a", 1, "x"))
	recovers(t, "no tag before a record", append(snapFrame(none), putFrames(put("a", 1, "x"))...), put("a", 1, "x"))
	s := recovered(t, "no tag", diskOf(t, snapFrame(none), nil), 0)
	if l := s.All(); !alike(l, []api.Entry{none}) {
		t.Errorf("All returns %v", l)
	}
	p := paper{head: snapFrame(none), kept: []api.Entry{none}}
	answers(t, "Compact", s.Compact(), api.OK)
	holds(t, "Compact", s, p.compact())
	answers(t, "Put", s.Put(none, 1), api.ErrArg)
	answers(t, "Put", s.Put(put("a", 1, "x"), 1), api.OK)
	ticks(t, "Put", s, p.put(put("a", 1, "x"), 1))
}

func TestRecoverRefusesRecords(t *testing.T) {
	good := bytesOf(put("k", 300, "value"))
	for name, frame := range map[string][]byte{
		"kind 2":                       frameOf(2, good),
		"kind 255":                     frameOf(255, good),
		"kind 2 without bytes":         frameOf(2, nil),
		"no bytes":                     frameOf(1, nil),
		"no entry":                     frameOf(1, []byte("something")),
		"an entry and a byte":          frameOf(1, append(slices.Clone(good), 0)),
		"two entries":                  frameOf(1, slices.Concat(good, good)),
		"a row of an entry":            frameOf(1, row(good)),
		"an entry without a tag":       frameOf(1, bytesOf(api.Entry{Key: "k"})),
		"a value without a tag":        frameOf(1, bytesOf(val("k", tag(0, 0, 0), "x"))),
		"an entry without a key":       frameOf(1, bytesOf(put("", 1, "x"))),
		"too great a tag":              frameOf(1, bytesOf(put("k", api.MaxSeq+1, "x"))),
		"a number that may be shorter": frameOf(1, []byte{1, 1, 'k', 2, 0, 1, 0, 0, 0}),
	} {
		other := putFrames(put("a", 1, "x"), put("b", 1, "y"))
		refuses(t, name, diskOf(t, frame, nil), api.ErrForm)
		refuses(t, name+" in the tail", diskOf(t, nil, frame), api.ErrForm)
		refuses(t, name+" behind others", diskOf(t, slices.Concat(other, frame), nil), api.ErrForm)
		refuses(t, name+" before others", diskOf(t, slices.Concat(frame, other), nil), api.ErrForm)
		refuses(t, name+" behind a snapshot", diskOf(t, slices.Concat(snapFrame(put("k", 999, "s")), frame), nil), api.ErrForm)
		refuses(t, name+" behind an empty snapshot", diskOf(t, slices.Concat(snapFrame(), other, frame, other), nil), api.ErrForm)
		refuses(t, name+" before a torn frame", diskOf(t, append(slices.Clone(frame), 0xa5, 1), nil), api.ErrForm)
		recovers(t, name+" before a snapshot", slices.Concat(frame, snapFrame()))
	}
	for n := range len(good) {
		refuses(t, "a part of an entry", diskOf(t, frameOf(1, good[:n]), nil), api.ErrForm)
	}
}

func TestRecoverRefusesSnapshots(t *testing.T) {
	good := bytesOf(put("k", 300, "value"))
	for name, b := range map[string][]byte{
		"a byte":                       {0x01},
		"an empty row":                 {0x00},
		"something":                    []byte("something"),
		"an entry without its row":     good,
		"a row of something":           row([]byte("something")),
		"a row of an entry and a byte": row(append(slices.Clone(good), 0)),
		"a row of two entries":         row(slices.Concat(good, good)),
		"a row of a row":               row(row(good)),
		"an entry and a byte":          append(row(good), 0x01),
		"an entry and an empty row":    append(row(good), 0x00),
		"an entry and something":       append(row(good), row([]byte("x"))...),
		"something and an entry":       append(row([]byte("x")), row(good)...),
		"an entry without a key":       rowsOf(put("", 1, "x")),
		"a value without a tag":        rowsOf(val("k", tag(0, 0, 0), "x")),
		"a Who without a Seq":          rowsOf(api.Entry{Key: "k", Tag: tag(0, 1, 0)}),
		"too great a tag":              rowsOf(put("k", api.MaxSeq+1, "x")),
		"a length that may be shorter": append([]byte{2, 0, byte(len(good))}, good...),
		"a length of nine bytes":       append([]byte{9, 0, 0, 0, 0, 0, 0, 0, 0, byte(len(good))}, good...),
		"too long a row":               {3, 1, 0, 1},
	} {
		frame := frameOf(0, b)
		refuses(t, name, diskOf(t, frame, nil), api.ErrForm)
		refuses(t, name+" in the tail", diskOf(t, nil, frame), api.ErrForm)
		refuses(t, name+" behind a snapshot", diskOf(t, slices.Concat(snapFrame(put("a", 1, "x")), frame), nil), api.ErrForm)
		refuses(t, name+" before a record", diskOf(t, slices.Concat(frame, putFrames(put("k", 999, "x"))), nil), api.ErrForm)
		refuses(t, name+" before a torn frame", diskOf(t, append(slices.Clone(frame), 0xa5), nil), api.ErrForm)
		recovers(t, name+" before a snapshot", slices.Concat(frame, snapFrame(put("a", 1, "x"))), put("a", 1, "x"))
	}
	rows := rowsOf(put("k", 300, "value"), gone("a", 2))
	for n := range len(rows) {
		switch n {
		case 0:
			recovers(t, "no row", frameOf(0, nil))
		case len(row(good)):
			recovers(t, "one row", frameOf(0, rows[:n]), put("k", 300, "value"))
		default:
			refuses(t, "a part of a snapshot", diskOf(t, frameOf(0, rows[:n]), nil), api.ErrForm)
		}
	}
}

// A disk is cut at each byte: what is complete is there, what isn't is cut off.
func TestRecoverOfATornDisk(t *testing.T) {
	l := []api.Entry{put("a", 1, "x"), gone("b", 2), put("a", 3, "y"), put("c", 1, "")}
	for _, head := range [][]byte{nil, snapFrame(), snapFrame(l[:2]...)} {
		var kept []api.Entry
		if len(head) > 20 {
			kept = l[:2]
		}
		b := slices.Concat(head, putFrames(l...))
		for size := len(head); size <= len(b); size++ {
			n := 0
			for n < len(l) && len(head)+len(putFrames(l[:n+1]...)) <= size {
				n++
			}
			whole := len(head) + len(putFrames(l[:n]...))
			s := recovered(t, "a torn disk", diskOf(t, b[:size/2], b[size/2:size]), size-whole)
			holds(t, "a torn disk", s, paper{head: b[:whole], kept: slices.Concat(kept, l[:n])})
		}
	}
	for size := range len(snapFrame(l...)) {
		s := recovered(t, "a torn snapshot", diskOf(t, snapFrame(l...)[:size], nil), size)
		holds(t, "a torn snapshot", s, paper{})
	}
}

// What follows a frame that was changed is cut off, whatever it is.
func TestRecoverOfAChangedDisk(t *testing.T) {
	l := []api.Entry{put("a", 1, "x"), put("a", 2, "y"), put("b", 1, "z")}
	b := append(putFrames(l...), frameOf(2, nil)...)
	first := len(putFrames(l[0]))
	b[first+8] ^= 0x10
	s := recovered(t, "a changed disk", diskOf(t, b, nil), len(b)-first)
	holds(t, "a changed disk", s, paper{head: b[:first], kept: l[:1]})
}

// A recovered store goes on with the Syncs of its disk, and with what was cut off gone.
func TestRecoverGoesOn(t *testing.T) {
	s, p := puts(t, many(), 4)
	d := s.Disk()
	answers(t, "Append", d.Append([]byte("torn")), api.OK)
	r := recovered(t, "Recover", d, 4)
	p = p.durable(p.fresh)
	holds(t, "Recover", r, p)
	for _, e := range []api.Entry{put("a", 2, "old"), put("a", 3, "new"), put("new", 1, "")} {
		answers(t, "Put", r.Put(e, 3), api.OK)
		p = p.put(e, 3)
		holds(t, "Recover and Put", r, p)
	}
	p = ticks(t, "Recover and Put", r, p)
	again := recovered(t, "Recover again", r.Disk(), 0)
	holds(t, "Recover again", again, p)
}
