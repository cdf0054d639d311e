package cells_test

import (
	"bytes"
	"slices"
	"strings"
	"testing"

	"icehouse/api"
	"icehouse/cells"
)

// sheet is a table by the chapter's words; its cells are in no order.
type sheet struct {
	room   api.Room
	cells  []api.Cell
	tokens []int
	used   int
}

func sheetOf(r api.Room) sheet {
	token := 1
	if r.Fresh {
		token = 0
	}
	return sheet{room: r, tokens: slices.Repeat([]int{token}, r.Buckets)}
}

func (s sheet) copied() sheet {
	s.cells, s.tokens = slices.Clone(s.cells), slices.Clone(s.tokens)
	return s
}

func (s sheet) sorted() []api.Cell {
	out := slices.Clone(s.cells)
	slices.SortFunc(out, func(a, b api.Cell) int { return strings.Compare(a.E.Key, b.E.Key) })
	return out
}

func (s sheet) at(key string) int {
	return slices.IndexFunc(s.cells, func(c api.Cell) bool { return c.E.Key == key })
}

func (s sheet) bucket(key string) int {
	return bucketOf(key, s.room.Buckets)
}

// place puts a cell where that of its key is, or behind the others, and uses it.
func (s sheet) place(c api.Cell) sheet {
	s = s.copied()
	s.used++
	c.Used = s.used
	if i := s.at(c.E.Key); i >= 0 {
		s.cells[i] = c
	} else {
		s.cells = append(s.cells, c)
	}
	return s
}

func (s sheet) evicted(i int) sheet {
	s = s.copied()
	s.tokens[s.bucket(s.cells[i].E.Key)]++
	s.cells = slices.Delete(s.cells, i, i+1)
	return s
}

func (s sheet) over(e api.Entry) bool {
	l := s.place(api.Cell{E: e}).cells
	return len(l) > s.room.Cells || sizeOf(l) > s.room.Bytes
}

// roomy makes room for e; of a sheet that is busy nothing is used any more.
func (s sheet) roomy(e api.Entry) (sheet, api.Errno) {
	for s.over(e) {
		least := -1
		for i, c := range s.cells {
			if c.Clean && c.E.Key != e.Key && (least < 0 || c.Used < s.cells[least].Used) {
				least = i
			}
		}
		if least < 0 {
			return sheet{}, api.ErrBusy
		}
		s = s.evicted(least)
	}
	return s, api.OK
}

func (s sheet) query(key string) (sheet, api.Reply) {
	token := s.tokens[s.bucket(key)]
	i := s.at(key)
	if i < 0 {
		return s, api.Reply{E: unwritten(key), Whole: token == 0, Token: token}
	}
	c := s.cells[i]
	return s.place(c), api.Reply{E: c.E, Whole: c.Whole, Token: token}
}

func (s sheet) store(e api.Entry) (sheet, api.Errno) {
	whole := s.tokens[s.bucket(e.Key)] == 0
	if i := s.at(e.Key); i >= 0 {
		if order(s.cells[i].E.Tag, e.Tag) >= 0 {
			return s.place(s.cells[i]), api.OK
		}
		whole = s.cells[i].Whole
	}
	next, err := s.roomy(e)
	if err != api.OK {
		return s, err
	}
	return next.place(cell(e, whole, false, 0)), api.OK
}

func (s sheet) fill(e api.Entry, token int) (sheet, bool, api.Errno) {
	if token != s.tokens[s.bucket(e.Key)] {
		return s, false, api.OK
	}
	if i := s.at(e.Key); i >= 0 && order(s.cells[i].E.Tag, e.Tag) > 0 {
		c := s.cells[i]
		c.Whole = true
		return s.place(c), true, api.OK
	}
	next, err := s.roomy(e)
	if err != api.OK {
		return s, false, err
	}
	return next.place(cell(e, true, true, 0)), true, api.OK
}

func (s sheet) cleaned(key string, tag api.Tag) (sheet, bool) {
	i := s.at(key)
	if i < 0 || order(s.cells[i].E.Tag, tag) > 0 {
		return s, false
	}
	s = s.copied()
	s.cells[i].Clean = true
	return s, true
}

func (s sheet) evict(key string) (sheet, bool) {
	i := s.at(key)
	if i < 0 || !s.cells[i].Clean {
		return s, false
	}
	return s.evicted(i), true
}

func (s sheet) forgotten() sheet {
	s = s.copied()
	for i := range s.cells {
		s.cells[i].Whole = false
	}
	for i := range s.tokens {
		s.tokens[i]++
	}
	return s
}

// told is what a call answers.
type told struct {
	reply api.Reply
	ok    bool
	e     api.Errno
}

func sameTold(a, b told) bool {
	return sameReply(a.reply, b.reply) && a.ok == b.ok && a.e == b.e
}

// act is a call, and what it ought to do. It returns the table that goes on.
type act struct {
	name string
	do   func(x *cells.Table) (*cells.Table, told)
	want func(s sheet) (sheet, told)
}

func queryOf(key string) act {
	return act{
		"Query " + key,
		func(x *cells.Table) (*cells.Table, told) {
			r, e := x.Query(key)
			return x, told{reply: r, e: e}
		},
		func(s sheet) (sheet, told) {
			next, r := s.query(key)
			return next, told{reply: r}
		},
	}
}

func storeOf(name string, e api.Entry) act {
	return act{
		"Store " + name,
		func(x *cells.Table) (*cells.Table, told) { return x, told{e: x.Store(e)} },
		func(s sheet) (sheet, told) {
			next, err := s.store(e)
			return next, told{e: err}
		},
	}
}

// fillOf fills with the token that the bucket has, plus so many.
func fillOf(name string, e api.Entry, more int) act {
	return act{
		"Fill " + name,
		func(x *cells.Table) (*cells.Table, told) {
			l := x.Tokens()
			ok, err := x.Fill(e, l[bucketOf(e.Key, len(l))]+more)
			return x, told{ok: ok, e: err}
		},
		func(s sheet) (sheet, told) {
			next, ok, err := s.fill(e, s.tokens[s.bucket(e.Key)]+more)
			return next, told{ok: ok, e: err}
		},
	}
}

func cleanOf(key string, seq int) act {
	return act{
		"Clean " + key,
		func(x *cells.Table) (*cells.Table, told) { return x, told{ok: x.Clean(key, tag(seq, 1, 0))} },
		func(s sheet) (sheet, told) {
			next, ok := s.cleaned(key, tag(seq, 1, 0))
			return next, told{ok: ok}
		},
	}
}

func evictOf(key string) act {
	return act{
		"Evict " + key,
		func(x *cells.Table) (*cells.Table, told) { return x, told{ok: x.Evict(key)} },
		func(s sheet) (sheet, told) {
			next, ok := s.evict(key)
			return next, told{ok: ok}
		},
	}
}

func forgetOf() act {
	return act{
		"Forget",
		func(x *cells.Table) (*cells.Table, told) { x.Forget(); return x, told{} },
		func(s sheet) (sheet, told) { return s.forgotten(), told{} },
	}
}

// spoilTable changes a table that nothing is asked of any more.
func spoilTable(x *cells.Table) {
	for _, c := range x.Cells() {
		x.Clean(c.E.Key, tag(999, 0, 0))
		x.Query(c.E.Key)
	}
	for _, key := range []string{"a", "b", "q"} {
		x.Store(put(key, 999, "?"))
		x.Evict(key)
	}
	x.Forget()
}

// copyOf goes on with a copy, or with that of which there is one, while the other one is
// made another table.
func copyOf(goOn bool) act {
	name := "Copy that is left"
	if goOn {
		name = "Copy"
	}
	return act{
		name,
		func(x *cells.Table) (*cells.Table, told) {
			c := x.Copy()
			if goOn {
				x, c = c, x
			}
			spoilTable(c)
			return x, told{}
		},
		func(s sheet) (sheet, told) { return s, told{} },
	}
}

// failing: calls that fail, one after the other, and change nothing.
func failing() act {
	return act{
		"calls that fail",
		func(x *cells.Table) (*cells.Table, told) {
			for _, e := range wrongs() {
				x.Store(e)
				x.Fill(e, 0)
			}
			_, e := x.Query("")
			return x, told{e: e}
		},
		func(s sheet) (sheet, told) { return s, told{e: api.ErrArg} },
	}
}

func acts() []act {
	return []act{
		queryOf("a"), queryOf("c"),
		storeOf("a 1", put("a", 1, "xy")), storeOf("a 2", gone("a", 2)), storeOf("b 1", put("b", 1, "x")), storeOf("c 3", put("c", 3, "xyz")),
		fillOf("a 1", put("a", 1, "w"), 0), fillOf("b 2", put("b", 2, "longer"), 0), fillOf("c", unwritten("c"), 0), fillOf("c, too late", put("c", 5, ""), -1),
		cleanOf("a", 1), cleanOf("b", 9), cleanOf("c", 9), evictOf("a"), evictOf("c"), forgetOf(), copyOf(true), copyOf(false), failing(),
	}
}

// rows calls do with each row of up to so many acts.
func rows(l []act, most int, do func(row []act)) {
	var longer func(row []act)
	longer = func(row []act) {
		do(row)
		if len(row) == most {
			return
		}
		for _, a := range l {
			longer(append(row[:len(row):len(row)], a))
		}
	}
	longer(nil)
}

// play holds a table against the sheet: what each call answers, and all of it at the end.
func play(t *testing.T, r api.Room, row []act) {
	t.Helper()
	x, s := tableOf(t, r), sheetOf(r)
	name := "New"
	for _, a := range row {
		name += ", " + a.name
		next, got := a.do(x)
		after, want := a.want(s)
		if !sameTold(got, want) {
			t.Errorf("%v: %s: %v, not %v", r, name, got, want)
		}
		x, s = next, after
	}
	has(t, name, x, s.sorted(), s.tokens...)
	if n, size := x.Size(); n > r.Cells || size > r.Bytes {
		t.Errorf("%v: %s: %d cells of size %d", r, name, n, size)
	}
}

func rooms() []api.Room {
	return []api.Room{
		{Cells: 1, Bytes: 9, Buckets: 1, Fresh: true}, {Cells: 2, Bytes: 99, Buckets: 2, Fresh: true},
		{Cells: 2, Bytes: 6, Buckets: 1}, {Cells: 3, Bytes: 8, Buckets: 3, Fresh: true},
	}
}

func TestRowsOfCalls(t *testing.T) {
	for _, r := range rooms() {
		rows(acts(), 3, func(row []act) { play(t, r, row) })
	}
}

// The acts in which room is made, after what there has to be for that.
func TestRowsInFullTables(t *testing.T) {
	before := []act{
		storeOf("a 1", put("a", 1, "xy")), fillOf("b 2", put("b", 2, "x"), 0), storeOf("c 3", put("c", 3, "")), cleanOf("a", 9),
	}
	for _, r := range rooms() {
		rows(acts(), 3, func(row []act) { play(t, r, slices.Concat(before, row)) })
	}
}

// dice is a row of numbers that look as if they came by chance.
type dice uint64

func (d *dice) below(n int) int {
	*d = *d*6364136223846793005 + 1442695040888963407
	return int(uint64(*d) >> 33 % uint64(n))
}

func someAct(d *dice) act {
	key := string(rune('a' + d.below(9)))
	e := put(key, d.below(12)+1, strings.Repeat("v", d.below(7)))
	switch d.below(16) {
	case 0, 1, 2:
		return queryOf(key)
	case 3, 4, 5, 6:
		return storeOf(key, e)
	case 7:
		return storeOf(key, gone(key, e.Tag.Seq))
	case 8, 9:
		return fillOf(key, e, 0)
	case 10:
		return fillOf(key, unwritten(key), -d.below(2))
	case 11, 12, 13:
		return cleanOf(key, d.below(14))
	case 14:
		return evictOf(key)
	}
	return []act{forgetOf(), copyOf(true), copyOf(false), failing()}[d.below(4)]
}

// Long rows of calls, in rooms of all kinds. No entry goes that the store may not have,
// unless by a newer one of its key.
func TestLongRows(t *testing.T) {
	d := dice(7)
	for range 60 {
		r := api.Room{Cells: d.below(7) + 1, Bytes: d.below(40) + 1, Buckets: d.below(4) + 1, Fresh: d.below(2) == 0}
		x, s := tableOf(t, r), sheetOf(r)
		for range 400 {
			a, dirty := someAct(&d), x.Dirty()
			next, got := a.do(x)
			after, want := a.want(s)
			if !sameTold(got, want) {
				t.Fatalf("%v: %s: %v, not %v", r, a.name, got, want)
			}
			x, s = next, after
			has(t, a.name, x, s.sorted(), s.tokens...)
			if n, size := x.Size(); n > r.Cells || size > r.Bytes {
				t.Errorf("%v: %d cells of size %d", r, n, size)
			}
			stays(t, a.name, dirty, x.Cells())
		}
	}
}

func stays(t *testing.T, name string, dirty []api.Entry, l []api.Cell) {
	t.Helper()
	for _, e := range dirty {
		i := slices.IndexFunc(l, func(c api.Cell) bool { return c.E.Key == e.Key })
		if i < 0 || order(l[i].E.Tag, e.Tag) < 0 || order(l[i].E.Tag, e.Tag) == 0 && !l[i].Clean && !bytes.Equal(l[i].E.Val.B, e.Val.B) {
			t.Errorf("%s: %v is gone", name, e)
		}
	}
}
