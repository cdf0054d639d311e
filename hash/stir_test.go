package hash_test

import (
	"math"
	"testing"

	"icehouse/hash"
)

// stirred: Stir by the chapter's words.
func stirred(h uint64) uint64 {
	h ^= h / (1 << 33)
	h = times(h, 0xff51afd7ed558ccd)
	h ^= h / (1 << 33)
	h = times(h, 0xc4ceb9fe1a85ec53)
	return h ^ h/(1<<33)
}

func TestStir(t *testing.T) {
	for h, want := range map[uint64]uint64{
		0:                  0,
		1:                  0xb456bcfc34c2cb2c,
		2:                  0x3abf2a20650683e7,
		0xff:               0x1200a2a61d248b28,
		1 << 32:            0xba3a9e160a5f1419,
		1<<33 - 1:          0xc08c4a56f3c4443d,
		1 << 33:            0x6b80f8591e1145c3,
		math.MaxInt64:      0xabb93df0a930edea,
		1 << 63:            0x8f780810af31a493,
		math.MaxUint64:     0x64b5720b4b825f21,
		basis:              0xefd01f60ba992926,
		0x0123456789abcdef: 0x87cbfbfe89022cea,
	} {
		if got := hash.Stir(h); got != want {
			t.Errorf("Stir(%x) = %x, not %x", h, got, want)
		}
		if got := hash.Unstir(want); got != h {
			t.Errorf("Unstir(%x) = %x, not %x", want, got, h)
		}
	}
	for _, h := range words() {
		if got, want := hash.Stir(h), stirred(h); got != want {
			t.Errorf("Stir(%x) = %x, not %x", h, got, want)
		}
	}
}

// Each word is the Stir of one word, the one that Unstir returns.
func TestStirIsABijection(t *testing.T) {
	from := map[uint64]uint64{}
	for _, h := range words() {
		s := hash.Stir(h)
		if got := hash.Unstir(s); got != h {
			t.Errorf("Unstir(Stir(%x)) = %x", h, got)
		}
		if got := hash.Stir(hash.Unstir(h)); got != h {
			t.Errorf("Stir(Unstir(%x)) = %x", h, got)
		}
		if other, ok := from[s]; ok && other != h {
			t.Errorf("%x and %x have the same Stir", other, h)
		}
		from[s] = h
	}
}
