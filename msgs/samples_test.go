package msgs_test

import (
	"bytes"
	"math"
	"slices"
	"strings"

	"icehouse/api"
)

// letters tells, from the chapter, which of N, Flag, E, L and R each kind has.
func letters(kind int) string {
	switch kind {
	case api.Told:
		return "NFE"
	case api.Ask, api.Kept, api.NoRoom, api.Look, api.Found, api.Flush, api.Flushed, api.Keep:
		return "E"
	case api.Fill:
		return "NE"
	case api.Other, api.Seal:
		return "N"
	case api.Dump, api.Install:
		return "NFL"
	case api.News:
		return "R"
	}
	return ""
}

func has(kind int, letter string) bool {
	return strings.Contains(letters(kind), letter)
}

const kindCount = 17

// allKinds: 1 to 17.
func allKinds() []int {
	var out []int
	for kind := 1; kind <= kindCount; kind++ {
		out = append(out, kind)
	}
	return out
}

func noKinds() []int {
	return []int{0, 18, 19, -1, -17, 33, 256, 257, 273, 1<<32 + 1, math.MinInt, math.MinInt + 1, math.MaxInt}
}

func tag(seq, who, op int) api.Tag { return api.Tag{Seq: seq, Who: who, Op: op} }

func val(s string) api.Val { return api.Val{Has: true, B: []byte(s)} }

func entry(key string, t api.Tag, v api.Val) api.Entry {
	return api.Entry{Key: key, Tag: t, Val: v}
}

func ringOf(each, keep int, nodes ...int) api.Ring {
	return api.Ring{Nodes: nodes, Each: each, Keep: keep}
}

func long(n int) string { return strings.Repeat("x", n) }

// many returns so many nodes, or what else is counted from a number on.
func many(from, n int) []int {
	var out []int
	for i := range n {
		out = append(out, from+i)
	}
	return out
}

func sameEntry(a, b api.Entry) bool {
	return a.Key == b.Key && a.Tag == b.Tag && a.Val.Has == b.Val.Has && bytes.Equal(a.Val.B, b.Val.B)
}

// alike does not call the program, and tells apart what Same does not.
func alike(a, b api.Msg) bool {
	return a.Kind == b.Kind && a.From == b.From && a.To == b.To && a.Epoch == b.Epoch && a.Op == b.Op &&
		a.N == b.N && a.Flag == b.Flag && sameEntry(a.E, b.E) && slices.EqualFunc(a.L, b.L, sameEntry) &&
		slices.Equal(a.R.Nodes, b.R.Nodes) && a.R.Each == b.R.Each && a.R.Keep == b.R.Keep
}

func isZero(m api.Msg) bool { return alike(m, api.Msg{}) }

// taken copies without the program.
func taken(m api.Msg) api.Msg {
	own := func(e api.Entry) api.Entry {
		e.Val.B = append([]byte(nil), e.Val.B...)
		return e
	}
	l := []api.Entry(nil)
	for _, e := range m.L {
		l = append(l, own(e))
	}
	m.E, m.L, m.R.Nodes = own(m.E), l, append([]int(nil), m.R.Nodes...)
	return m
}

// full has something in every field, which no kind allows.
func full(kind int) api.Msg {
	return api.Msg{
		Kind: kind, From: 7, To: 300, Epoch: 5, Op: 70000, N: 9, Flag: true,
		E: entry("k", tag(5, 2, 1), val("xy")),
		L: []api.Entry{entry("a", tag(1, 0, 0), val("")), entry("b", tag(2, 3, 4), api.Val{})},
		R: ringOf(3, 2, 2, 5, 300),
	}
}

// only leaves in m what its kind has.
func only(m api.Msg) api.Msg {
	if !has(m.Kind, "N") {
		m.N = 0
	}
	if !has(m.Kind, "F") {
		m.Flag = false
	}
	if !has(m.Kind, "E") {
		m.E = api.Entry{}
	}
	if !has(m.Kind, "L") {
		m.L = nil
	}
	if !has(m.Kind, "R") {
		m.R = api.Ring{}
	}
	return m
}

// usual is a message of that kind that may be.
func usual(kind int) api.Msg { return only(full(kind)) }

// least is the message of that kind with the shortest encoding.
func least(kind int) api.Msg {
	return only(api.Msg{Kind: kind, E: api.Entry{Key: "\x00"}, R: ringOf(1, 1, 0)})
}

// greatest has the greatest numbers.
func greatest(kind int) api.Msg {
	return only(api.Msg{
		Kind: kind, From: api.MaxID, To: api.MaxID, Epoch: api.MaxSeq, Op: api.MaxSeq, N: api.MaxSeq, Flag: true,
		E: entry(long(api.MaxKey), tag(api.MaxSeq, api.MaxID, api.MaxID), val("z")),
		L: []api.Entry{entry("k", tag(api.MaxSeq, api.MaxID, api.MaxID), api.Val{})},
		R: ringOf(api.MaxEach, api.MaxMembers, many(api.MaxID-api.MaxMembers+1, api.MaxMembers)...),
	})
}

// changed returns the usual message of a kind after a change.
func changed(kind int, change func(m *api.Msg)) api.Msg {
	m := usual(kind)
	change(&m)
	return m
}

// rightEntries: entries that may be, each one unlike the others.
func rightEntries() []api.Entry {
	return []api.Entry{
		entry("k", tag(0, 0, 0), api.Val{}),
		entry("k", tag(1, 0, 0), api.Val{}),
		entry("k", tag(1, 0, 0), val("")),
		entry("k", tag(1, 0, 0), val("v")),
		entry("j", tag(1, 0, 0), val("v")),
		entry("\x00", tag(3, 1, 0), val("\x00\xff")),
		entry("\xff\xfe", tag(256, 255, 65536), val("\xc3")),
		entry(long(api.MaxKey), tag(api.MaxSeq, api.MaxID, api.MaxID), val(long(300))),
	}
}

// wrongEntries: entries that may not be, each for one reason.
func wrongEntries() []api.Entry {
	return []api.Entry{
		{},
		entry("", tag(1, 0, 0), val("v")),
		entry(long(api.MaxKey+1), tag(1, 0, 0), val("v")),
		entry("k", tag(1, 0, 0), val(long(api.MaxVal+1))),
		entry("k", tag(1, 0, 0), api.Val{B: []byte{1}}),
		entry("k", tag(0, 0, 0), val("")),
		entry("k", tag(0, 1, 0), api.Val{}),
		entry("k", tag(0, 0, 1), api.Val{}),
		entry("k", tag(-1, 0, 0), val("v")),
		entry("k", tag(1, -1, 0), val("v")),
		entry("k", tag(api.MaxSeq+1, 0, 0), val("v")),
		entry("k", tag(1, api.MaxID+1, 0), api.Val{}),
		entry("k", tag(1, 0, api.MaxID+1), api.Val{}),
	}
}

func rightRings() []api.Ring {
	return []api.Ring{
		ringOf(1, 1, 0),
		ringOf(1, 1, 1),
		ringOf(2, 1, 1),
		ringOf(1, 1, api.MaxID),
		ringOf(api.MaxEach, 1, 0, 1),
		ringOf(3, 2, 0, 1),
		ringOf(3, 3, 2, 255, 256),
		ringOf(api.MaxEach, api.MaxMembers, many(0, api.MaxMembers)...),
		ringOf(1, 1, many(api.MaxID-api.MaxMembers+1, api.MaxMembers)...),
	}
}

// wrongRings: each is wrong for one reason.
func wrongRings() []api.Ring {
	return []api.Ring{
		{},
		ringOf(1, 1),
		ringOf(1, 0),
		ringOf(0, 1, 1),
		ringOf(-1, 1, 1),
		ringOf(api.MaxEach+1, 1, 1),
		ringOf(math.MinInt, 1, 1),
		ringOf(math.MaxInt, 1, 1),
		ringOf(1, 0, 1),
		ringOf(1, -1, 1),
		ringOf(1, 2, 1),
		ringOf(1, 4, 1, 2, 3),
		ringOf(1, math.MaxInt, 1),
		ringOf(1, 1, -1),
		ringOf(1, 1, -1, 4),
		ringOf(1, 1, math.MinInt),
		ringOf(1, 1, api.MaxID+1),
		ringOf(1, 1, 4, api.MaxID+1),
		ringOf(1, 1, math.MaxInt),
		ringOf(1, 1, 4, 4),
		ringOf(1, 1, 4, 2),
		ringOf(1, 1, 1, 2, 2),
		ringOf(1, 1, many(0, api.MaxMembers+1)...),
		ringOf(1, api.MaxMembers+1, many(0, api.MaxMembers+1)...),
	}
}

// rightMsgs: messages that may be, each one unlike the others.
func rightMsgs() []api.Msg {
	var out []api.Msg
	for _, kind := range allKinds() {
		out = append(out, least(kind), usual(kind), greatest(kind))
		for _, n := range []int{1, 255, 256, 65535, 65536, api.MaxID} {
			out = append(out,
				changed(kind, func(m *api.Msg) { m.From = n }),
				changed(kind, func(m *api.Msg) { m.To = n }),
				changed(kind, func(m *api.Msg) { m.Epoch = n }),
				changed(kind, func(m *api.Msg) { m.Op = n }))
		}
		for _, n := range []int{0, 1, 256, api.MaxSeq - 1} {
			if has(kind, "N") {
				out = append(out, changed(kind, func(m *api.Msg) { m.N = n }))
			}
		}
		if has(kind, "F") {
			out = append(out, changed(kind, func(m *api.Msg) { m.Flag = false }))
		}
		for _, e := range rightEntries() {
			if has(kind, "E") {
				out = append(out, changed(kind, func(m *api.Msg) { m.E = e }))
			}
			if has(kind, "L") {
				out = append(out, changed(kind, func(m *api.Msg) { m.L = []api.Entry{e} }), changed(kind, func(m *api.Msg) { m.L = append(m.L, e) }))
			}
		}
		if has(kind, "L") {
			out = append(out, changed(kind, func(m *api.Msg) { m.L = rightEntries() }), changed(kind, func(m *api.Msg) { m.L = slices.Repeat(rightEntries()[:1], 256) }))
		}
		for _, r := range rightRings() {
			if has(kind, "R") {
				out = append(out, changed(kind, func(m *api.Msg) { m.R = r }))
			}
		}
	}
	return out
}

type wrongMsg struct {
	name string
	m    api.Msg
}

// wrongMsgs: messages that may not be, each for one reason.
func wrongMsgs() []wrongMsg {
	var out []wrongMsg
	add := func(name string, m api.Msg) { out = append(out, wrongMsg{name, m}) }
	for _, kind := range noKinds() {
		add("no kind", api.Msg{Kind: kind})
		add("no kind, and all fields", full(kind))
	}
	for _, kind := range allKinds() {
		for _, n := range []int{-1, api.MaxID + 1, api.MaxSeq, math.MinInt, math.MaxInt} {
			add("From", changed(kind, func(m *api.Msg) { m.From = n }))
			add("To", changed(kind, func(m *api.Msg) { m.To = n }))
		}
		for _, n := range []int{-1, api.MaxSeq + 1, math.MinInt, math.MaxInt} {
			add("Epoch", changed(kind, func(m *api.Msg) { m.Epoch = n }))
			add("Op", changed(kind, func(m *api.Msg) { m.Op = n }))
			add("N", changed(kind, func(m *api.Msg) { m.N = n }))
		}
		out = append(out, wrongParts(kind)...)
		out = append(out, wrongRests(kind)...)
	}
	return out
}

// wrongParts: a field that the kind has may not be.
func wrongParts(kind int) []wrongMsg {
	var out []wrongMsg
	add := func(name string, change func(m *api.Msg)) {
		out = append(out, wrongMsg{name, changed(kind, change)})
	}
	for _, e := range wrongEntries() {
		if has(kind, "E") {
			add("E may not be", func(m *api.Msg) { m.E = e })
		}
		if has(kind, "L") {
			add("L is one that may not be", func(m *api.Msg) { m.L = []api.Entry{e} })
			add("the first of L", func(m *api.Msg) { m.L = slices.Insert(m.L, 0, e) })
			add("the second of L", func(m *api.Msg) { m.L = slices.Insert(m.L, 1, e) })
			add("the last of L", func(m *api.Msg) { m.L = append(m.L, e) })
		}
	}
	if has(kind, "L") {
		k := entry("k", tag(1, 0, 0), api.Val{})
		add("one too many in L", func(m *api.Msg) { m.L = slices.Repeat([]api.Entry{k}, api.MaxList+1) })
		add("many too many in L", func(m *api.Msg) { m.L = slices.Repeat([]api.Entry{k}, 1<<16) })
		add("the last of as many as may be", func(m *api.Msg) { m.L = append(slices.Repeat([]api.Entry{k}, api.MaxList-1), api.Entry{}) })
	}
	for _, r := range wrongRings() {
		if has(kind, "R") {
			add("R may not be", func(m *api.Msg) { m.R = r })
		}
	}
	return out
}

// wrongRests: something stands in a field that the kind does not have.
func wrongRests(kind int) []wrongMsg {
	var out []wrongMsg
	add := func(letter string, name string, change func(m *api.Msg)) {
		if !has(kind, letter) {
			out = append(out, wrongMsg{name, changed(kind, change)})
		}
	}
	add("N", "N", func(m *api.Msg) { m.N = 1 })
	add("N", "a great N", func(m *api.Msg) { m.N = api.MaxSeq })
	add("F", "Flag", func(m *api.Msg) { m.Flag = true })
	add("E", "E", func(m *api.Msg) { m.E = full(kind).E })
	add("E", "the key of E", func(m *api.Msg) { m.E.Key = "k" })
	add("E", "a long key of E", func(m *api.Msg) { m.E.Key = long(api.MaxKey + 1) })
	add("E", "Seq of E", func(m *api.Msg) { m.E.Tag.Seq = 1 })
	add("E", "Who of E", func(m *api.Msg) { m.E.Tag.Who = 1 })
	add("E", "Op of E", func(m *api.Msg) { m.E.Tag.Op = -1 })
	add("E", "an empty value of E", func(m *api.Msg) { m.E.Val.Has = true })
	add("E", "bytes of E, without Has", func(m *api.Msg) { m.E.Val.B = []byte{0} })
	add("L", "L", func(m *api.Msg) { m.L = full(kind).L })
	add("L", "a zero entry in L", func(m *api.Msg) { m.L = make([]api.Entry, 1) })
	add("R", "R", func(m *api.Msg) { m.R = full(kind).R })
	add("R", "the nodes of R", func(m *api.Msg) { m.R.Nodes = []int{0} })
	add("R", "Each of R", func(m *api.Msg) { m.R.Each = 1 })
	add("R", "a negative Each of R", func(m *api.Msg) { m.R.Each = -1 })
	add("R", "Keep of R", func(m *api.Msg) { m.R.Keep = 1 })
	return out
}
