package beat_test

import (
	"math"
	"slices"
	"testing"

	"icehouse/api"
	"icehouse/beat"
)

const (
	greatest = math.MaxFloat64
	smallest = math.SmallestNonzeroFloat64
	lastTime = 1<<40 - 1
)

var (
	up     = math.Inf(1)
	down   = math.Inf(-1)
	nan    = math.NaN()
	minus0 = math.Copysign(0, -1)
)

func of(last int, times ...float64) api.Beats { return api.Beats{Last: last, Times: times} }

// same goes by the bits.
func same(a, b float64) bool { return math.Float64bits(a) == math.Float64bits(b) }

func alike(a, b api.Beats) bool {
	return a.Last == b.Last && slices.EqualFunc(a.Times, b.Times, same)
}

// zeros: so many Times.
func zeros(n int) []float64 { return make([]float64, n) }

// right: beats that may be.
func right() []api.Beats {
	return []api.Beats{
		of(0), of(1), of(lastTime), {Last: 5, Times: []float64{}}, of(6, 2, 4), of(4, 0, 0), of(3, smallest), of(3, greatest), of(3, greatest, greatest),
		of(9, 0.5, 1e300, 0), of(2, zeros(1)...), of(2, zeros(15)...), of(2, zeros(16)...), of(1, append(zeros(15), greatest)...), of(0, 1e16, 1, 1),
	}
}

// wrongTimes: what may not be among the Times.
func wrongTimes() []float64 {
	return []float64{
		nan, math.Float64frombits(0x7ff0000000000001), math.Float64frombits(0xfff8000000000001), math.Float64frombits(0xffffffffffffffff),
		up, down, minus0, -smallest, -1, -greatest,
	}
}

// wrong: beats that may not be, each by one thing.
func wrong() []api.Beats {
	out := []api.Beats{
		of(-1), of(-1, 1), of(math.MinInt, 1), of(lastTime + 1), of(lastTime+1, 1), of(math.MaxInt, 1),
		of(3, zeros(17)...), of(3, zeros(18)...), of(3, zeros(100000)...),
	}
	for _, x := range wrongTimes() {
		for i := range 16 {
			for _, n := range []int{i + 1, 16} {
				l := zeros(n)
				l[i] = x
				out = append(out, of(3, l...))
			}
		}
	}
	return out
}

func TestLimits(t *testing.T) {
	if lastTime != api.MaxSeq || api.MaxTimes != 16 {
		t.Error("the limits are others")
	}
}

func TestNew(t *testing.T) {
	for _, now := range []int{0, 1, 2, 77, lastTime - 1, lastTime} {
		if b, e := beat.New(now); e != api.OK || !alike(b, of(now)) {
			t.Errorf("New(%d): %v, error %d", now, b, e)
		}
	}
	for _, now := range []int{-1, -2, math.MinInt, lastTime + 1, lastTime + 2, math.MaxInt} {
		if b, e := beat.New(now); e != api.ErrArg || !alike(b, of(0)) {
			t.Errorf("New(%d): %v, error %d", now, b, e)
		}
	}
}

func TestCheck(t *testing.T) {
	for _, b := range right() {
		if e := beat.Check(b); e != api.OK {
			t.Errorf("Check(%v): error %d", b, e)
		}
	}
	for _, b := range wrong() {
		if e := beat.Check(b); e != api.ErrArg {
			t.Errorf("Check(%.200v): error %d", b, e)
		}
	}
}

// fails holds a call's error, and that it returns nothing else, against the promise.
func fails(t *testing.T, name string, empty bool, got, want api.Errno) {
	t.Helper()
	if got != want || !empty {
		t.Errorf("%s: error %d, not %d; without a result: %t", name, got, want, empty)
	}
}

func refuses(t *testing.T, b api.Beats, now int) {
	t.Helper()
	h, e := beat.Heard(b, now)
	fails(t, "Heard", alike(h, of(0)), e, api.ErrArg)
	score, e := beat.Score(b, now)
	fails(t, "Score", same(score, 0), e, api.ErrArg)
	for _, most := range []float64{0, -1, down, up, nan} {
		is, e := beat.Suspect(b, now, most)
		fails(t, "Suspect", !is, e, api.ErrArg)
	}
	for _, l := range [][]api.Beats{{b}, {of(0), b}, {b, of(0)}} {
		got, e := beat.Order(now, l...)
		fails(t, "Order", len(got) == 0, e, api.ErrArg)
	}
}

func TestBeatsThatMayNotBe(t *testing.T) {
	for _, b := range wrong() {
		usual, e := beat.Usual(b)
		fails(t, "Usual", same(usual, 0), e, api.ErrArg)
		for _, now := range []int{b.Last, 3, 9, lastTime, -1, lastTime + 1} {
			refuses(t, b, now)
		}
	}
}

// now is neither before Last, nor out of its range.
func TestTimesThatMayNotBe(t *testing.T) {
	for _, b := range right() {
		for _, now := range []int{b.Last - 1, b.Last - 7, -1, math.MinInt, lastTime + 1, math.MaxInt} {
			refuses(t, b, now)
		}
		for _, now := range []int{b.Last, lastTime} {
			if _, e := beat.Heard(b, now); e != api.OK {
				t.Errorf("Heard(%v, %d): error %d", b, now, e)
			}
			if _, e := beat.Score(b, now); e != api.OK {
				t.Errorf("Score(%v, %d): error %d", b, now, e)
			}
		}
	}
}

func TestHeard(t *testing.T) {
	var sixteen []float64
	for i := range 16 {
		sixteen = append(sixteen, float64(i)+0.5)
	}
	for _, c := range []struct {
		b    api.Beats
		now  int
		want api.Beats
	}{
		{of(0), 0, of(0, 0)},
		{of(0), 2, of(2, 2)},
		{of(2, 2), 6, of(6, 2, 4)},
		{of(6, 2, 4), 6, of(6, 2, 4, 0)},
		{of(0, smallest, greatest), lastTime, of(lastTime, smallest, greatest, 1099511627775)},
		{of(1, 3), lastTime, of(lastTime, 3, 1099511627774)},
		{of(lastTime, 3), lastTime, of(lastTime, 3, 0)},
		{of(10, sixteen[:14]...), 13, of(13, append(slices.Clone(sixteen[:14]), 3)...)},
		{of(10, sixteen[:15]...), 13, of(13, append(slices.Clone(sixteen[:15]), 3)...)},
		{of(10, sixteen...), 13, of(13, append(slices.Clone(sixteen[1:]), 3)...)},
	} {
		got, e := beat.Heard(c.b, c.now)
		if e != api.OK || !alike(got, c.want) {
			t.Errorf("Heard(%v, %d): %v, error %d", c.b, c.now, got, e)
		}
		if e := beat.Check(got); e != api.OK {
			t.Errorf("Heard(%v, %d): %v may not be", c.b, c.now, got)
		}
	}
}

// Of a node that is heard of time and again the last 16 times between are known.
func TestHeardOften(t *testing.T) {
	b, _ := beat.New(3)
	heard := []int{3}
	for i := range 100 {
		now := heard[i] + i*i%7
		next, e := beat.Heard(b, now)
		heard = append(heard, now)
		want := of(now)
		for j := max(1, len(heard)-16); j < len(heard); j++ {
			want.Times = append(want.Times, float64(heard[j]-heard[j-1]))
		}
		if e != api.OK || !alike(next, want) {
			t.Fatalf("at %v: %v, not %v, error %d", heard, next, want, e)
		}
		b = next
	}
}

func TestUsual(t *testing.T) {
	for _, c := range []struct {
		b    api.Beats
		want float64
	}{
		{of(0), 1},
		{of(lastTime), 1},
		{api.Beats{Last: 5, Times: []float64{}}, 1},
		{of(6, 2, 4), 3},
		{of(6, 5), 5},
		{of(6, 0), 0},
		{of(6, zeros(16)...), 0},
		{of(6, 1, 2), 1.5},
		{of(6, 0, 0, 1), 1 / 3.0},
		{of(6, append(zeros(15), 8)...), 0.5},
		{of(6, smallest), smallest},
		{of(6, smallest, 0), 0}, // half of that is none
		{of(6, smallest, smallest, 0), smallest},
		{of(6, greatest), greatest},
		{of(6, greatest, greatest), up},
		{of(6, greatest, 0), greatest / 2},
		{of(6, 1e16, 1, 1), 1e16 / 3}, // one after the other: each 1 is lost
		{of(6, 1, 1, 1e16), (1e16 + 2) / 3},
		{of(6, 0.1, 0.2, 0.3), math.Float64frombits(0x3fc999999999999b)}, // 0.6000000000000001 / 3
	} {
		if got, e := beat.Usual(c.b); e != api.OK || !same(got, c.want) {
			t.Errorf("Usual(%v): %v, not %v, error %d", c.b, got, c.want, e)
		}
	}
}

// scored: beats at a time, and their score.
var scored = []struct {
	b    api.Beats
	now  int
	want float64
}{
	{of(0), 0, 0},
	{of(0), 7, 7}, // without Times the usual one is 1
	{of(0), lastTime, lastTime},
	{of(lastTime), lastTime, 0},
	{of(6, 2, 4), 6, 0},
	{of(6, 2, 4), 7, 1 / 3.0},
	{of(6, 2, 4), 9, 1},
	{of(6, 2, 4), 12, 2}, // the chapter's example
	{of(6, 2, 4), lastTime, (lastTime - 6) / 3.0},
	{of(4, 0, 0), 4, 0},
	{of(4, 0, 0), 5, up},
	{of(4, 0, 0), lastTime, up},
	{of(4, smallest, 0), 4, 0}, // the usual one is too small to be told from zero
	{of(4, smallest, 0), 5, up},
	{of(4, smallest), 4, 0},
	{of(4, smallest), 5, up}, // too great
	{of(4, 0x1p-1022), 5, 0x1p1022},
	{of(4, 0x1p-1022), 8, up},
	{of(4, greatest, greatest), 4, 0}, // the usual one is infinite
	{of(4, greatest, greatest), lastTime, 0},
	{of(4, greatest), 5, 1 / greatest},
	{of(4, greatest), 4, 0},
	{of(4, 0.5), 5, 2},
	{of(4, 3, 3, 4), 5, 1 / (10 / 3.0)},
}

func TestScore(t *testing.T) {
	for _, c := range scored {
		if got, e := beat.Score(c.b, c.now); e != api.OK || !same(got, c.want) {
			t.Errorf("Score(%v, %d): %v, not %v, error %d", c.b, c.now, got, c.want, e)
		}
	}
}

// The longer a node has not been heard of, the greater its score.
func TestScoreRises(t *testing.T) {
	for _, b := range right() {
		before := -1.0
		for _, wait := range []int{0, 1, 2, 3, 100, 1 << 20, 1<<20 + 1, lastTime - b.Last} {
			if wait > lastTime-b.Last {
				continue
			}
			now := b.Last + wait
			got, e := beat.Score(b, now)
			if e != api.OK || math.IsNaN(got) || math.Signbit(got) || got < before {
				t.Errorf("Score(%v, %d): %v after %v, error %d", b, now, got, before, e)
			}
			before = got
		}
	}
}

func TestSuspect(t *testing.T) {
	for _, c := range scored {
		for _, x := range []struct {
			most float64
			want bool
		}{
			{c.want, false},
			{down, true},
			{-1, true},
			{-smallest, true},
			{minus0, c.want > 0}, // the zeros are equal
			{0, c.want > 0},
			{smallest, c.want > smallest},
			{greatest, c.want == up},
			{up, false},
			{math.Nextafter(c.want, down), true},
			{math.Nextafter(c.want, up), false},
		} {
			if got, e := beat.Suspect(c.b, c.now, x.most); e != api.OK || got != x.want {
				t.Errorf("Suspect(%v, %d, %v): %t, error %d", c.b, c.now, x.most, got, e)
			}
		}
	}
}

func TestSuspectOfNaN(t *testing.T) {
	for _, w := range []uint64{0x7ff8000000000001, 0x7ff8000000000000, 0x7ff0000000000001, 0x7fffffffffffffff, 0xfff8000000000001, 0xffffffffffffffff, 0xfff0000000000001} {
		for _, c := range scored {
			is, e := beat.Suspect(c.b, c.now, math.Float64frombits(w))
			fails(t, "Suspect", !is, e, api.ErrNaN)
		}
	}
}

func TestSame(t *testing.T) {
	quiet, other := math.Float64frombits(0x7ff8000000000001), math.Float64frombits(0x7ff8000000000002)
	l := append(right(),
		of(-1), of(lastTime+1), of(0, 1), of(1, 1), of(0, 2), of(0, 1, 1), of(0, 1, 2), of(0, 2, 1), of(0, 0), of(0, minus0), of(0, quiet), of(0, other),
		of(0, up), of(0, down), of(0, greatest), of(0, 1, 2, 3), of(0, zeros(17)...), of(0, zeros(18)...), of(0, append(zeros(16), minus0)...),
	)
	for i, a := range l {
		for j, b := range l {
			if got := beat.Same(a, b); got != (i == j) {
				t.Errorf("Same(%v, %v): %t", a, b, got)
			}
		}
		if c := of(a.Last, slices.Clone(a.Times)...); !beat.Same(a, c) {
			t.Errorf("Same(%v, %v): false", a, c)
		}
	}
	if !beat.Same(of(2), api.Beats{Last: 2, Times: []float64{}}) {
		t.Error("no Times and none are not the same")
	}
}
