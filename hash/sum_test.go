package hash_test

import (
	"bytes"
	"hash/fnv"
	"math"
	"math/big"
	"slices"
	"testing"

	"icehouse/hash"
)

const (
	basis = 0xcbf29ce484222325
	prime = 0x100000001b3
)

// words: the edges of bytes, halves and whole words, the constants of the
// chapter, and others that come of multiplying.
func words() []uint64 {
	out := []uint64{
		0, 1, 2, 3, 0x7f, 0x80, 0xff, 0x100, 0x1ff, 0xff00, 0xffff, math.MaxUint32, math.MaxUint32 + 1,
		1<<33 - 1, 1 << 33, 1<<33 + 1, 1<<34 - 1, math.MaxInt64, 1 << 63, 1<<63 + 1, math.MaxUint64 - 1, math.MaxUint64,
		basis, prime, 0xff51afd7ed558ccd, 0xc4ceb9fe1a85ec53, 0x0123456789abcdef, 0x5555555555555555, 0xaaaaaaaaaaaaaaaa,
	}
	for i := range 64 {
		out = append(out, 1<<i, ^uint64(1<<i), math.MaxUint64>>i, math.MaxUint64<<i)
	}
	for h := uint64(1); len(out) < 3000; h = h*6364136223846793005 + 1442695040888963407 {
		out = append(out, h, h>>17)
	}
	return out
}

// times multiplies modulo 2^64 without a word that wraps around.
func times(a, b uint64) uint64 {
	n := new(big.Int).Mul(new(big.Int).SetUint64(a), new(big.Int).SetUint64(b))
	return n.Mod(n, new(big.Int).Lsh(big.NewInt(1), 64)).Uint64()
}

// spread: n bytes, with all values among them if there are enough.
func spread(n int) []byte {
	out := make([]byte, n)
	for i := range out {
		out[i] = byte(i*151 + i>>8)
	}
	return out
}

// texts: with zero bytes, with bytes that are no UTF-8, and long ones.
func texts() []string {
	return []string{
		"", "a", "b", "ab", "ba", "foobar", "\x00", "\x00\x00", "\x00a", "a\x00", "\xff", "\xff\xfe", "\xc3\xa9", "é\xff世界",
		string(spread(250)), string(spread(256)), string(spread(1 << 16)), string(spread(1 << 20)),
	}
}

type vector struct {
	s     string
	sum   uint64
	check uint32
	key   uint64
}

func vectors() []vector {
	return []vector{
		{"", basis, 0x4fd0bfc1, 0xefd01f60ba992926},
		{"a", 0xaf63dc4c8601ec8c, 0x296230c0, 0x82a2a958a9bece5b},
		{"ab", 0x089c4407b545986a, 0xbdd9dc6d, 0xda71cbd11dd9bde4},
		{"ba", 0x08a63307b54dd00c, 0xbdebe30b, 0x0679519be9cf602c},
		{"foobar", 0x85944171f73967e8, 0x72ad2699, 0x2c22194922d1672b},
		{"\x00", 0xaf63bd4c8601b7df, 0x29620a93, 0xb9034ad37056f5fb},
		{"\x00\x00", 0x08328807b4eb6fed, 0xbcd9e7ea, 0xdb01c3104e99566d},
		{"\xff", 0xaf64724c8602eb6e, 0x29669922, 0x1bbd5c813c69a8d7},
		{"\xc3\xa9", 0x0ac21707b7181e01, 0xbdda0906, 0x9d55ccb9ba86763b},
	}
}

func sumOf(b []byte) uint64 {
	h := fnv.New64a()
	h.Write(b)
	return h.Sum64()
}

func TestStep(t *testing.T) {
	for _, x := range []struct {
		h    uint64
		c    byte
		want uint64
	}{
		{0, 0, 0},
		{0, 1, prime},
		{1, 1, 0},
		{0xff, 0xff, 0},
		{1, 0, prime},
		{0x100, 0xff, 0x1ff000003644d},
		{0x1ff, 0xff, 0x100000001b300},
		{0x12345678, 0x87, 0x3456ff1eeeefd34d},
		{1 << 24, 0, 0x1b3000000},
		{1 << 23, 0, 0x80000000d9800000},
		{1 << 63, 0, 1 << 63},
		{1<<63 + 0x80, 0x80, 1 << 63},
		{math.MaxUint64, 0, 0xfffffefffffffe4d},
		{math.MaxUint64, 0xff, 0xfffefffffffe4d00},
		{basis, 'a', 0xaf63dc4c8601ec8c},
		{0xaf63dc4c8601ec8c, 'b', 0x089c4407b545986a},
	} {
		if got := hash.Step(x.h, x.c); got != x.want {
			t.Errorf("Step(%x, %x) = %x, not %x", x.h, x.c, got, x.want)
		}
	}
}

func TestStepOfAnyWord(t *testing.T) {
	for _, h := range words() {
		for _, c := range []byte{0, 1, 2, 0x7f, 0x80, 0xfe, 0xff, byte(h), ^byte(h)} {
			low := h&^0xff + (h&0xff)&^uint64(c) + uint64(c)&^(h&0xff)
			if got, want := hash.Step(h, c), times(low, prime); got != want {
				t.Errorf("Step(%x, %x) = %x, not %x", h, c, got, want)
			}
		}
	}
}

func TestSum(t *testing.T) {
	for _, v := range vectors() {
		if got := hash.Sum([]byte(v.s)); got != v.sum {
			t.Errorf("Sum(%q) = %x, not %x", v.s, got, v.sum)
		}
	}
	for _, s := range texts() {
		if got, want := hash.Sum([]byte(s)), sumOf([]byte(s)); got != want {
			t.Errorf("Sum of %d bytes is %x, not %x", len(s), got, want)
		}
	}
}

func TestSumOfNothing(t *testing.T) {
	for _, l := range [][][]byte{nil, {}, {nil}, {{}}, {nil, nil}, {nil, {}, nil}} {
		if got := hash.Sum(l...); got != basis {
			t.Errorf("Sum of %d arguments without bytes is %x", len(l), got)
		}
	}
	if got := hash.Sum(); got != basis {
		t.Errorf("Sum() = %x", got)
	}
}

// How bytes are divided into arguments does not count, but their order does.
func TestSumOfParts(t *testing.T) {
	b := spread(40)
	want := sumOf(b)
	for i := range len(b) + 1 {
		for j := i; j <= len(b); j++ {
			for _, l := range [][][]byte{
				{b[:i], b[i:j], b[j:]},
				{nil, b[:i], {}, b[i:j], nil, nil, b[j:], {}},
			} {
				if got := hash.Sum(l...); got != want {
					t.Errorf("divided at %d and %d: %x, not %x", i, j, got, want)
				}
			}
		}
	}
	var single [][]byte
	for i := range b {
		single = append(single, b[i:i+1])
	}
	if got := hash.Sum(single...); got != want {
		t.Errorf("byte by byte: %x, not %x", got, want)
	}
	x, y := []byte("foo"), []byte("bar")
	if got := hash.Sum(x, y, x); got != sumOf([]byte("foobarfoo")) {
		t.Errorf("the same argument twice: %x", got)
	}
	if hash.Sum(x, y) == hash.Sum(y, x) {
		t.Error("the order of the arguments does not count")
	}
}

// Sum is Step for each byte, from the sum of nothing on.
func TestSumIsSteps(t *testing.T) {
	b := spread(600)
	h := hash.Sum()
	for i, c := range b {
		h = hash.Step(h, c)
		if got := hash.Sum(b[:i+1]); got != h {
			t.Errorf("Sum of %d bytes is %x, not %x", i+1, got, h)
		}
	}
}

func TestChangingOneByteChangesTheSum(t *testing.T) {
	for _, n := range []int{1, 2, 3, 8, 9, 16, 33, 250} {
		b := spread(n)
		sum, key := hash.Sum(b), hash.Key(string(b))
		for i := range b {
			for c := 1; c < 256; c++ {
				b[i] ^= byte(c)
				if hash.Sum(b) == sum || hash.Sum(b[:i], b[i:]) == sum || hash.Key(string(b)) == key {
					t.Errorf("byte %d of %d, changed by %x, does not change the sum", i, n, c)
				}
				b[i] ^= byte(c)
			}
		}
	}
}

func TestCheck(t *testing.T) {
	for _, v := range vectors() {
		for i := range len(v.s) + 1 {
			if got := hash.Check([]byte(v.s[:i]), nil, []byte(v.s[i:])); got != v.check {
				t.Errorf("Check of %q, divided at %d, is %x, not %x", v.s, i, got, v.check)
			}
		}
		if got := hash.Check([]byte(v.s)); got != v.check {
			t.Errorf("Check(%q) = %x, not %x", v.s, got, v.check)
		}
	}
	if hash.Check() != 0x4fd0bfc1 || hash.Check(nil) != 0x4fd0bfc1 || hash.Check(nil, []byte{}) != 0x4fd0bfc1 {
		t.Errorf("Check of nothing is %x", hash.Check())
	}
	for _, s := range texts() {
		h := sumOf([]byte(s))
		if got, want := hash.Check([]byte(s)), uint32(h/(1<<32)^h%(1<<32)); got != want {
			t.Errorf("Check of %d bytes is %x, not %x", len(s), got, want)
		}
	}
}

// Neither arguments nor what lies behind them are touched, and what becomes of
// them later is not seen.
func TestArgumentsAreLeftAlone(t *testing.T) {
	whole := spread(100)
	before := slices.Clone(whole)
	l := [][]byte{whole[:10], whole[20:20], nil, whole[20:50]}
	sum, check := hash.Sum(l...), hash.Check(l...)
	if !bytes.Equal(whole, before) || len(l) != 4 || !bytes.Equal(l[0], before[:10]) || len(l[1]) != 0 || l[2] != nil || !bytes.Equal(l[3], before[20:50]) {
		t.Error("the arguments are changed")
	}
	if hash.Sum(l...) != sum || hash.Check(l...) != check {
		t.Error("the same arguments have another sum")
	}
	clear(whole)
	if hash.Sum(l...) != sumOf(make([]byte, 40)) || hash.Sum(before[:10], before[20:50]) != sum {
		t.Error("an earlier call is seen in a later one")
	}
}
