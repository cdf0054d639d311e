package real_test

import (
	"math"
	"slices"
	"testing"

	"icehouse/api"
	"icehouse/real"
)

const canonNaN = 0x7ff8000000000001

var (
	up       = math.Inf(1)
	down     = math.Inf(-1)
	minus0   = math.Copysign(0, -1)
	greatest = math.MaxFloat64
	smallest = math.SmallestNonzeroFloat64
	nan      = math.Float64frombits(canonNaN)
)

// nanWords: a NaN of every kind: quiet and signaling, of both signs, with the
// least, the greatest and other payloads.
var nanWords = []uint64{
	0x7ff8000000000001, 0x7ff8000000000000, 0x7ff0000000000001, 0x7ff7ffffffffffff, 0x7fffffffffffffff, 0x7ff8000000000002,
	0xfff8000000000001, 0xfff8000000000000, 0xfff0000000000001, 0xfff7ffffffffffff, 0xffffffffffffffff, 0xfff0000000000007,
}

// numberWords: numbers with their bits, in rising order; both zeros are there.
var numberWords = []uint64{
	0xfff0000000000000, // negative infinity
	0xffefffffffffffff, // the least
	0xffe0000000000000,
	0xc008000000000000, // -3
	0xbff0000000000001,
	0xbff0000000000000, // -1
	0xbfe0000000000000,
	0x8010000000000000, // the greatest negative normal one
	0x800fffffffffffff,
	0x8000000000000002,
	0x8000000000000001, // the greatest negative one
	0x8000000000000000, // negative zero
	0x0000000000000000,
	0x0000000000000001,
	0x0000000000000002,
	0x000fffffffffffff,
	0x0010000000000000,
	0x3fe0000000000000,
	0x3ff0000000000000,
	0x3ff0000000000001,
	0x4008000000000000,
	0x7fe0000000000000,
	0x7fefffffffffffff,
	0x7ff0000000000000,
}

// words: the special ones, and others that are spread over all bits.
func words() []uint64 {
	out := append(slices.Clone(nanWords), numberWords...)
	w := uint64(0)
	for range 2000 {
		w += 0x9e3779b97f4a7c15
		out = append(out, w, w^w>>29)
	}
	for i := range 64 {
		out = append(out, 1<<i, 1<<i-1, ^uint64(1<<i))
	}
	return out
}

func floats(l []uint64) []float64 {
	out := make([]float64, len(l))
	for i, w := range l {
		out[i] = math.Float64frombits(w)
	}
	return out
}

func isNaNWord(w uint64) bool {
	return w&0x7ff0000000000000 == 0x7ff0000000000000 && w&0x000fffffffffffff != 0
}

func isCanonWord(w uint64) bool {
	return w == canonNaN || w != 0x8000000000000000 && !isNaNWord(w)
}

// sameBits does not call the package, so that a fault in Same can't hide another.
func sameBits(a, b float64) bool {
	return math.Float64bits(a) == math.Float64bits(b)
}

func TestSame(t *testing.T) {
	all := append(slices.Clone(nanWords), numberWords...)
	for i, a := range all {
		for k, b := range all {
			if got := real.Same(math.Float64frombits(a), math.Float64frombits(b)); got != (i == k) {
				t.Errorf("Same(%x, %x) = %v", a, b, got)
			}
		}
	}
}

func TestCanon(t *testing.T) {
	for _, w := range words() {
		want := w
		switch {
		case isNaNWord(w):
			want = canonNaN
		case w == 0x8000000000000000:
			want = 0
		}
		if got := math.Float64bits(real.Canon(math.Float64frombits(w))); got != want {
			t.Errorf("Canon(%x) = %x", w, got)
		}
	}
}

func TestKeyOfSpecialNumbers(t *testing.T) {
	for _, c := range []struct {
		x   float64
		key uint64
	}{
		{0, 0x8000000000000000},
		{minus0, 0x7fffffffffffffff},
		{smallest, 0x8000000000000001},
		{-smallest, 0x7ffffffffffffffe},
		{1, 0xbff0000000000000},
		{-1, 0x400fffffffffffff},
		{greatest, 0xffefffffffffffff},
		{-greatest, 0x0010000000000000},
		{up, 0xfff0000000000000},
		{down, 0x000fffffffffffff},
		{nan, 0xfff8000000000001},
		{math.Float64frombits(0xfff8000000000001), 0x0007fffffffffffe},
		{math.Float64frombits(0x7fffffffffffffff), 0xffffffffffffffff},
		{math.Float64frombits(0xffffffffffffffff), 0},
	} {
		if got := real.Key(c.x); got != c.key {
			t.Errorf("Key(%x) = %x", math.Float64bits(c.x), got)
		}
		if got := real.Of(c.key); !sameBits(got, c.x) {
			t.Errorf("Of(%x) = %x", c.key, math.Float64bits(got))
		}
	}
}

func TestKeyAndOfAreInverse(t *testing.T) {
	for _, w := range words() {
		if got := real.Key(real.Of(w)); got != w {
			t.Errorf("Key(Of(%x)) = %x", w, got)
		}
		if got := real.Of(real.Key(math.Float64frombits(w))); math.Float64bits(got) != w {
			t.Errorf("Of(Key(%x)) = %x", w, math.Float64bits(got))
		}
	}
}

func TestKeysRise(t *testing.T) {
	l := floats(append(slices.Clone(numberWords), canonNaN))
	for i := range len(l) - 1 {
		if real.Key(l[i]) >= real.Key(l[i+1]) {
			t.Errorf("Key(%v) is not less than Key(%v)", l[i], l[i+1])
		}
	}
	for _, a := range words() {
		x := real.Canon(math.Float64frombits(a))
		for _, y := range l {
			y = real.Canon(y)
			want := -1
			if real.Key(x) > real.Key(y) {
				want = 1
			} else if real.Key(x) == real.Key(y) {
				want = 0
			}
			if got := real.Compare(x, y); got != want {
				t.Errorf("Compare(%v, %v) = %d, by the keys it is %d", x, y, got, want)
			}
		}
	}
}

func TestCompareNumbers(t *testing.T) {
	l := floats(numberWords)
	for _, x := range l {
		for _, y := range l {
			want := 0
			if x < y {
				want = -1
			} else if x > y {
				want = 1
			}
			if got := real.Compare(x, y); got != want {
				t.Errorf("Compare(%v, %v) = %d", x, y, got)
			}
		}
	}
}

func TestCompareNaNs(t *testing.T) {
	for _, a := range floats(nanWords) {
		for _, b := range floats(nanWords) {
			if got := real.Compare(a, b); got != 0 {
				t.Errorf("Compare(%x, %x) = %d", math.Float64bits(a), math.Float64bits(b), got)
			}
		}
		for _, x := range floats(numberWords) {
			if got := real.Compare(a, x); got != 1 {
				t.Errorf("Compare(%x, %v) = %d", math.Float64bits(a), x, got)
			}
			if got := real.Compare(x, a); got != -1 {
				t.Errorf("Compare(%v, %x) = %d", x, math.Float64bits(a), got)
			}
		}
	}
}

// The order is total: of any two one is not greater, neither way round differs,
// and it carries over a third one.
func TestCompareIsATotalOrder(t *testing.T) {
	l := floats(append(slices.Clone(nanWords), numberWords...))
	for _, a := range l {
		for _, b := range l {
			ab := real.Compare(a, b)
			if ab != -real.Compare(b, a) {
				t.Errorf("Compare(%v, %v) is not the other way round", a, b)
			}
			for _, c := range l {
				if ab <= 0 && real.Compare(b, c) <= 0 && real.Compare(a, c) > 0 {
					t.Errorf("Compare: %v, %v, %v", a, b, c)
				}
			}
		}
	}
}

type manyCase struct {
	name string
	l    []float64
	want float64
	e    api.Errno
}

func runMany(t *testing.T, f func(...float64) (float64, api.Errno), cases []manyCase) {
	for _, c := range cases {
		before := slices.Clone(c.l)
		got, e := f(c.l...)
		if !sameBits(got, c.want) || e != c.e {
			t.Errorf("%s: %x (%v), error %d", c.name, math.Float64bits(got), got, e)
		}
		if !slices.EqualFunc(before, c.l, sameBits) {
			t.Errorf("%s: the numbers were changed", c.name)
		}
	}
}

func TestLeast(t *testing.T) {
	quiet, signaling := math.Float64frombits(0xfff8000000000003), math.Float64frombits(0x7ff0000000000005)
	runMany(t, real.Least, []manyCase{
		{"none", nil, 0, api.ErrNone},
		{"an empty list", []float64{}, 0, api.ErrNone},
		{"one", []float64{7}, 7, api.OK},
		{"first", []float64{-2, 1, 5}, -2, api.OK},
		{"middle", []float64{1, -2, 5}, -2, api.OK},
		{"last", []float64{5, 1, -2}, -2, api.OK},
		{"both zeros, the negative one first", []float64{3, minus0, 0, 2}, minus0, api.OK},
		{"both zeros, the positive one first", []float64{3, 0, minus0, 2}, 0, api.OK},
		{"one negative zero", []float64{minus0}, minus0, api.OK},
		{"a negative NaN is no least one", []float64{quiet, 4}, 4, api.OK},
		{"an infinity is less than a NaN", []float64{signaling, up, quiet}, up, api.OK},
		{"only NaNs", []float64{signaling, quiet, nan}, signaling, api.OK},
		{"only NaNs, another one first", []float64{quiet, signaling}, quiet, api.OK},
		{"negative infinity", []float64{-greatest, down, quiet, 0}, down, api.OK},
		{"negative infinity first", []float64{down, -greatest, nan}, down, api.OK},
		{"infinity first", []float64{up, 5, greatest}, 5, api.OK},
		{"a NaN first", []float64{quiet, up, 5}, 5, api.OK},
		{"extreme numbers", []float64{greatest, smallest, up}, smallest, api.OK},
		{"below zero", []float64{0, minus0, -smallest}, -smallest, api.OK},
	})
}

func TestMean(t *testing.T) {
	runMany(t, real.Mean, []manyCase{
		{"none", nil, 0, api.ErrNone},
		{"an empty list", []float64{}, 0, api.ErrNone},
		{"one", []float64{7}, 7, api.OK},
		{"two", []float64{1, 2}, 1.5, api.OK},
		{"of both signs", []float64{-1, 2, -7, 4}, -0.5, api.OK},
		{"a third", []float64{1, 0, 0}, 1.0 / 3, api.OK},
		{"the greatest", []float64{greatest}, greatest, api.OK},
		{"the smallest", []float64{smallest}, smallest, api.OK},
		{"zero", []float64{0, 0}, 0, api.OK},
		{"the sum starts with positive zero", []float64{minus0}, 0, api.OK},
		{"negative zeros", []float64{minus0, minus0, minus0}, 0, api.OK},
		{"they cancel out", []float64{-3, 3}, 0, api.OK},
		{"a quotient that comes to zero", []float64{smallest, 0}, 0, api.OK},
		{"a quotient that comes to negative zero", []float64{-smallest, 0}, minus0, api.OK},
	})
}

func TestMeanAddsOneAfterTheOther(t *testing.T) {
	runMany(t, real.Mean, []manyCase{
		{"the small one is lost", []float64{1e16, 1, -1e16}, 0, api.OK},
		{"the small one is kept", []float64{1e16, -1e16, 1}, 1.0 / 3, api.OK},
		{"small ones first", []float64{1, 1, 1e16}, 10000000000000002.0 / 3, api.OK},
		{"small ones last", []float64{1e16, 1, 1}, 1e16 / 3, api.OK},
		{"halves do not add up", []float64{0.1, 0.2, 0.3}, sumOf(0.1, 0.2, 0.3) / 3, api.OK},
	})
}

// sumOf keeps the compiler from adding constants exactly.
func sumOf(l ...float64) float64 {
	s := 0.0
	for _, x := range l {
		s += x
	}
	return s
}

func TestMeanOverflow(t *testing.T) {
	runMany(t, real.Mean, []manyCase{
		{"up", []float64{greatest, greatest}, up, api.OK},
		{"down", []float64{-greatest, -greatest}, down, api.OK},
		{"on its way, and no way back", []float64{greatest, greatest, -greatest, -greatest}, up, api.OK},
		{"down on its way", []float64{-greatest, -greatest, greatest, greatest}, down, api.OK},
		{"avoided by the order", []float64{greatest, -greatest, greatest}, greatest / 3, api.OK},
		{"up, then the same infinity", []float64{greatest, greatest, up}, up, api.OK},
		{"up, then negative infinity", []float64{greatest, greatest, down}, 0, api.ErrNaN},
		{"down, then infinity", []float64{-greatest, -greatest, up}, 0, api.ErrNaN},
		{"negative infinity first", []float64{down, greatest, greatest}, down, api.OK},
	})
}

func TestMeanInfinitiesAndNaNs(t *testing.T) {
	runMany(t, real.Mean, []manyCase{
		{"infinity", []float64{up}, up, api.OK},
		{"infinity and a number", []float64{up, 5}, up, api.OK},
		{"negative infinity and the greatest", []float64{greatest, down}, down, api.OK},
		{"infinities of one sign", []float64{up, up, 1, up}, up, api.OK},
		{"negative infinities", []float64{down, down}, down, api.OK},
		{"both", []float64{up, down}, 0, api.ErrNaN},
		{"both, the other way round", []float64{down, up}, 0, api.ErrNaN},
		{"both, far apart", []float64{1, down, 2, 3, up, 4}, 0, api.ErrNaN},
		{"both, and again", []float64{up, down, up}, 0, api.ErrNaN},
	})
	for _, x := range floats(nanWords) {
		runMany(t, real.Mean, []manyCase{
			{"one NaN", []float64{x}, 0, api.ErrNaN},
			{"a NaN first", []float64{x, 1, 2}, 0, api.ErrNaN},
			{"a NaN in the middle", []float64{1, x, 2}, 0, api.ErrNaN},
			{"a NaN last", []float64{1, 2, x}, 0, api.ErrNaN},
			{"a NaN behind an infinity", []float64{down, x}, 0, api.ErrNaN},
		})
	}
}

type shareCase struct {
	a, b, want float64
	e          api.Errno
}

func runShare(t *testing.T, cases []shareCase) {
	for _, c := range cases {
		got, e := real.Share(c.a, c.b)
		if !sameBits(got, c.want) || e != c.e {
			t.Errorf("Share(%v, %v) = %x (%v), error %d", c.a, c.b, math.Float64bits(got), got, e)
		}
	}
}

func TestShare(t *testing.T) {
	runShare(t, []shareCase{
		{1, 4, 0.25, api.OK},
		{4, 1, 4, api.OK},
		{-1, 4, -0.25, api.OK},
		{1, -4, -0.25, api.OK},
		{-1, -4, 0.25, api.OK},
		{1, 3, 1.0 / 3, api.OK},
		{greatest, greatest, 1, api.OK},
		{-smallest, smallest, -1, api.OK},
		{greatest, 0.5, up, api.OK},
		{greatest, smallest, up, api.OK},
		{-greatest, smallest, down, api.OK},
		{up, 2, up, api.OK},
		{up, -2, down, api.OK},
		{down, 2, down, api.OK},
		{down, -smallest, up, api.OK},
	})
}

func TestShareOfZero(t *testing.T) {
	for _, a := range []float64{0, minus0} {
		for _, b := range []float64{5, -5, smallest, -smallest, greatest, -greatest, up, down} {
			runShare(t, []shareCase{{a, b, 0, api.OK}})
		}
	}
	for _, a := range []float64{1, -1, smallest, -smallest, greatest, -greatest} {
		runShare(t, []shareCase{{a, up, 0, api.OK}, {a, down, 0, api.OK}})
	}
	runShare(t, []shareCase{
		{smallest, 2, 0, api.OK},
		{-smallest, 2, 0, api.OK},
		{smallest, -2, 0, api.OK},
		{-smallest, greatest, 0, api.OK},
		{smallest, -greatest, 0, api.OK},
	})
}

func TestShareErrors(t *testing.T) {
	for _, a := range floats(append(slices.Clone(nanWords), numberWords...)) {
		runShare(t, []shareCase{{a, 0, 0, api.ErrNaN}, {a, minus0, 0, api.ErrNaN}})
		for _, n := range floats(nanWords) {
			runShare(t, []shareCase{{a, n, 0, api.ErrNaN}, {n, a, 0, api.ErrNaN}})
		}
	}
	for _, a := range []float64{up, down} {
		for _, b := range []float64{up, down} {
			runShare(t, []shareCase{{a, b, 0, api.ErrNaN}})
		}
	}
}

func bigEndian(w uint64) []byte {
	return []byte{byte(w >> 56), byte(w >> 48), byte(w >> 40), byte(w >> 32), byte(w >> 24), byte(w >> 16), byte(w >> 8), byte(w)}
}

// Bytes tells the bits as they are: it makes no canon of them.
func TestBytes(t *testing.T) {
	if got := real.Bytes(1); !slices.Equal(got, []byte{0x3f, 0xf0, 0, 0, 0, 0, 0, 0}) {
		t.Errorf("Bytes(1) = %x", got)
	}
	if got := real.Bytes(math.Float64frombits(0x0123456789abcdef)); !slices.Equal(got, []byte{0x01, 0x23, 0x45, 0x67, 0x89, 0xab, 0xcd, 0xef}) {
		t.Errorf("Bytes: %x", got)
	}
	for _, w := range words() {
		if got := real.Bytes(math.Float64frombits(w)); !slices.Equal(got, bigEndian(w)) {
			t.Errorf("Bytes of %x: %x", w, got)
		}
	}
}

func TestBytesAreNewMemory(t *testing.T) {
	a, b := real.Bytes(1), real.Bytes(1)
	for _, l := range [][]byte{a, b} {
		if len(l) != 8 {
			t.Fatalf("%d bytes", len(l))
		}
	}
	whole := a[:cap(a)]
	for i := range whole {
		whole[i] = 0xee
	}
	if want := bigEndian(0x3ff0000000000000); !slices.Equal(b, want) || !slices.Equal(real.Bytes(1), want) {
		t.Error("one result is seen in another one")
	}
}

func TestReadIsUnique(t *testing.T) {
	for _, w := range words() {
		b := bigEndian(w)
		x, e := real.Read(b)
		switch {
		case !isCanonWord(w):
			if e != api.ErrForm || !sameBits(x, 0) {
				t.Errorf("Read(%x) = %v, error %d", b, x, e)
			}
		case e != api.OK || math.Float64bits(x) != w:
			t.Errorf("Read(%x) = %x, error %d", b, math.Float64bits(x), e)
		case !slices.Equal(real.Bytes(x), b):
			t.Errorf("Read(%x) has other bytes", b)
		}
		if !slices.Equal(b, bigEndian(w)) {
			t.Errorf("Read changed %x", bigEndian(w))
		}
		canon := real.Canon(math.Float64frombits(w))
		if back, e := real.Read(real.Bytes(canon)); e != api.OK || !sameBits(back, canon) {
			t.Errorf("%x is not read back: error %d", math.Float64bits(canon), e)
		}
	}
}

func TestReadOtherLengths(t *testing.T) {
	for n := range 20 {
		if n == 8 {
			continue
		}
		one := make([]byte, n)
		copy(one, bigEndian(0x3ff0000000000000))
		for _, b := range [][]byte{make([]byte, n), one} {
			if x, e := real.Read(b); e != api.ErrForm || !sameBits(x, 0) {
				t.Errorf("Read of %d bytes: %v, error %d", n, x, e)
			}
		}
	}
	if x, e := real.Read(nil); e != api.ErrForm || !sameBits(x, 0) {
		t.Errorf("Read(nil) = %v, error %d", x, e)
	}
}

// Any input: each call ends without a panic, and answers the same once more.
func TestAnyInput(t *testing.T) {
	l := floats(append(slices.Clone(nanWords), numberWords...))
	for _, a := range l {
		for _, b := range l {
			for _, f := range []func(...float64) (float64, api.Errno){real.Least, real.Mean, func(l ...float64) (float64, api.Errno) { return real.Share(l[0], l[1]) }} {
				x, e := f(a, b)
				y, again := f(a, b)
				if !sameBits(x, y) || e != again {
					t.Errorf("%v, %v: %v and %v, errors %d and %d", a, b, x, y, e, again)
				}
				if e != api.OK && !sameBits(x, 0) {
					t.Errorf("%v, %v: %v beside the error %d", a, b, x, e)
				}
				if e != api.OK && e != api.ErrNaN {
					t.Errorf("%v, %v: error %d", a, b, e)
				}
			}
		}
	}
	long := make([]float64, 100000)
	long[99999] = minus0
	if x, e := real.Least(long...); !sameBits(x, 0) || e != api.OK {
		t.Error(x, e)
	}
	if x, e := real.Mean(long...); !sameBits(x, 0) || e != api.OK {
		t.Error(x, e)
	}
}
