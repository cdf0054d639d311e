package hash_test

import (
	"encoding/binary"
	"math"
	"strings"
	"testing"

	"icehouse/api"
	"icehouse/hash"
)

func TestKey(t *testing.T) {
	for _, v := range vectors() {
		if got := hash.Key(v.s); got != v.key {
			t.Errorf("Key(%q) = %x, not %x", v.s, got, v.key)
		}
	}
	for _, s := range texts() {
		if got, want := hash.Key(s), stirred(sumOf([]byte(s))); got != want {
			t.Errorf("Key of %d bytes is %x, not %x", len(s), got, want)
		}
		if got := hash.Unstir(hash.Key(s)); got != sumOf([]byte(s)) {
			t.Errorf("Key of %d bytes is the Stir of %x", len(s), got)
		}
	}
}

func TestPoint(t *testing.T) {
	for _, c := range []struct {
		node, k int
		want    uint64
	}{
		{0, 0, 0xa5e0dba6c385580a},
		{1, 2, 0x51e4e2edd2bc2411},
		{2, 1, 0xb74758b10ae673c0},
		{0, 1, 0xb55b74000d560088},
		{1, 0, 0xd1108a8bec2b47fa},
		{256, 0, 0x8610aba8950f6d3e},
		{0, 256, 0x620b72e69be92090},
		{2, 63, 0xcc17ba82e661e0ed},
		{api.MaxID, api.MaxEach - 1, 0x6100dd5fe0991945},
		{0x0102030405060708, 0x1112131415161718, 0x67d0c07f54f3f8cc},
		{-1, 0, 0x5c5265894459fa90},
		{0, -1, 0x074290f353b460c9},
		{-1, -1, 0xb985182d97d9d96f},
		{math.MaxInt, math.MinInt, 0xbeefe655ef3a9719},
		{math.MinInt, math.MaxInt, 0x126f6fc30b19dec5},
	} {
		if got := hash.Point(c.node, c.k); got != c.want {
			t.Errorf("Point(%d, %d) = %x, not %x", c.node, c.k, got, c.want)
		}
	}
}

// A point is the key of sixteen bytes, whatever its numbers.
func TestPointIsAKey(t *testing.T) {
	for _, node := range words() {
		for _, k := range []uint64{0, 1, 255, 256, node, ^node, 1 << 63, math.MaxUint64} {
			b := binary.BigEndian.AppendUint64(nil, node)
			b = binary.BigEndian.AppendUint64(b, k)
			if got, want := hash.Point(int(node), int(k)), stirred(sumOf(b)); got != want {
				t.Errorf("Point(%x, %x) = %x, not %x", node, k, got, want)
			}
		}
	}
}

func TestBucket(t *testing.T) {
	for _, c := range []struct {
		s       string
		n, want int
	}{
		{"", 1, 0}, {"", 2, 0}, {"", 7, 1}, {"", 256, 38}, {"", 1000, 342}, {"", 65535, 62192}, {"", 65536, 10534},
		{"a", 1, 0}, {"a", 2, 1}, {"a", 7, 1}, {"a", 256, 91}, {"a", 1000, 315}, {"a", 65535, 42005}, {"a", 65536, 52827},
		{"b", 1, 0}, {"b", 2, 0}, {"b", 7, 2}, {"b", 256, 208}, {"b", 1000, 704}, {"b", 65535, 59914}, {"b", 65536, 53968},
		{"foobar", 1, 0}, {"foobar", 2, 1}, {"foobar", 7, 3}, {"foobar", 65535, 53095}, {"foobar", 65536, 26411},
	} {
		if got, e := hash.Bucket(c.s, c.n); got != c.want || e != api.OK {
			t.Errorf("Bucket(%q, %d) = %d, error %d", c.s, c.n, got, e)
		}
	}
	for _, s := range texts() {
		h := stirred(sumOf([]byte(s)))
		for _, n := range []int{1, 2, 3, 5, 16, 255, 256, 257, 4096, 65535, 65536} {
			if got, e := hash.Bucket(s, n); uint64(got) != h%uint64(n) || e != api.OK {
				t.Errorf("Bucket of %d bytes in %d = %d, error %d", len(s), n, got, e)
			}
		}
	}
}

func TestBucketOfEachNumber(t *testing.T) {
	h := hash.Key("foobar")
	for n := 1; n <= 65536; n++ {
		if got, e := hash.Bucket("foobar", n); uint64(got) != h%uint64(n) || e != api.OK {
			t.Errorf("Bucket(foobar, %d) = %d, error %d", n, got, e)
		}
	}
}

func TestBucketOfWrongNumbers(t *testing.T) {
	for _, s := range []string{"", "a", "foobar", strings.Repeat("x", 1<<16)} {
		for _, n := range []int{0, -1, -2, -7, -65536, math.MinInt, 65537, 65538, 1 << 17, 1 << 32, 1<<32 + 1, math.MaxInt} {
			if got, e := hash.Bucket(s, n); got != 0 || e != api.ErrArg {
				t.Errorf("Bucket of %d bytes in %d = %d, error %d", len(s), n, got, e)
			}
		}
	}
}
