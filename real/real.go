// Package real is layer 1: floating-point numbers that are told apart by their
// bits, a total order on them, and arithmetic that reports what is no number.
package real

import (
	"cmp"
	"math"

	"icehouse/api"
)

const (
	signBit   = 1 << 63
	canonNaN  = 0x7ff8000000000001
	wordBytes = 8
)

// Same reports whether a and b have the same bits, by which NaNs and zeros
// differ or agree where == would say otherwise.
func Same(a float64, b float64) bool {
	return math.Float64bits(a) == math.Float64bits(b)
}

// Canon returns the one NaN for every NaN, positive zero for both zeros, and
// otherwise x.
func Canon(x float64) float64 {
	switch {
	case math.IsNaN(x):
		return math.Float64frombits(canonNaN)
	case x == 0:
		return 0
	}
	return x
}

// Key returns a word for x: words rise as the numbers do. The bits of negative
// numbers fall as the numbers rise, hence these are inverted.
func Key(x float64) uint64 {
	bits := math.Float64bits(x)
	if bits&signBit != 0 {
		return ^bits
	}
	return bits | signBit
}

// Of returns the number whose Key is k.
func Of(k uint64) float64 {
	if k&signBit != 0 {
		return math.Float64frombits(k &^ signBit)
	}
	return math.Float64frombits(^k)
}

// Compare returns -1, 0 or 1. All NaNs are equal, and greater than everything
// else; both zeros are equal.
func Compare(a float64, b float64) int {
	return cmp.Compare(Key(Canon(a)), Key(Canon(b)))
}

// Least returns the first one of those that are the least, with its own bits,
// or ErrNone if there are no numbers.
func Least(l ...float64) (float64, api.Errno) {
	if len(l) == 0 {
		return 0, api.ErrNone
	}
	least := l[0]
search:
	for _, x := range l {
		switch {
		case math.IsInf(least, -1):
			break search // nothing is less: the rest can't change it
		case Compare(x, least) < 0:
			least = x
		}
	}
	return least, api.OK
}

// Mean returns the sum divided by how many numbers there are; ErrNone if there
// are none, and ErrNaN if the sum is a NaN. That a number is a NaN, or that both
// infinities occur, needs no look of its own: either makes a NaN of the sum.
func Mean(l ...float64) (float64, api.Errno) {
	if len(l) == 0 {
		return 0, api.ErrNone
	}
	sum := 0.0
	for _, x := range l {
		sum += x
	}
	if math.IsNaN(sum) {
		return 0, api.ErrNaN
	}
	return sum / float64(len(l)), api.OK
}

// Share returns a divided by b, and positive zero for a quotient that comes to
// a zero; ErrNaN if one is a NaN, b is a zero, or both are infinite.
func Share(a float64, b float64) (float64, api.Errno) {
	if math.IsNaN(a) || math.IsNaN(b) || b == 0 || math.IsInf(a, 0) && math.IsInf(b, 0) {
		return 0, api.ErrNaN
	}
	return Canon(a / b), api.OK
}

// Bytes returns the bits of x, the most significant byte first.
func Bytes(x float64) []byte {
	bits := math.Float64bits(x)
	out := make([]byte, wordBytes)
	for i := range out {
		out[i] = byte(bits >> (8 * (wordBytes - 1 - i)))
	}
	return out
}

// Read returns the number whose Bytes are b, if it equals its Canon, and
// otherwise ErrForm: so that equal numbers have one encoding.
func Read(b []byte) (float64, api.Errno) {
	if len(b) != wordBytes {
		return 0, api.ErrForm
	}
	var bits uint64
	for _, c := range b {
		bits = bits<<8 | uint64(c)
	}
	x := math.Float64frombits(bits)
	if !Same(x, Canon(x)) {
		return 0, api.ErrForm
	}
	return x, api.OK
}
