// Package num is layer 1: floats in one order, and exact products of an int64 and a float. See shared/doc/01-num.md.
package num

import (
	"cmp"
	"math"

	"moiety/api"
)

const (
	signBit  = 1 << 63            // the highest bit of a float
	usualNaN = 0x7ff8000000000001 // the bits of the usual float that is no number
)

// Class is what a float is.
func Class(f float64) api.Class {
	switch {
	case math.IsNaN(f):
		return api.ClassNone
	case math.IsInf(f, -1):
		return api.ClassNegInf
	case f < 0:
		return api.ClassNeg
	case math.IsInf(f, 1):
		return api.ClassInf
	case f > 0:
		return api.ClassPos
	case math.Signbit(f):
		return api.ClassNegZero
	}
	return api.ClassZero
}

// Cmp is -1, 0 or 1: a is below, the same as, above b.
func Cmp(a, b float64) int { return cmp.Compare(Key(a), Key(b)) }

// Key is a number that is ordered as the float is.
func Key(f float64) uint64 {
	if math.IsNaN(f) {
		return 0
	}
	b := math.Float64bits(f)
	if b&signBit != 0 {
		return ^b // a greater size below 0 is a lesser float
	}
	return b | signBit
}

// Of is the float of a key; false: it is nobody's.
func Of(k uint64) (float64, bool) {
	if k == 0 {
		return math.Float64frombits(usualNaN), true
	}
	b := ^k
	if k&signBit != 0 {
		b = k &^ signBit
	}
	f := math.Float64frombits(b)
	if math.IsNaN(f) { // what is no number has the key 0 alone
		return 0, false
	}
	return f, true
}

// Least is the least of some floats; false: there are none.
func Least(l ...float64) (float64, bool) {
	if len(l) == 0 {
		return 0, false
	}
	least := l[0]
	for _, f := range l[1:] {
		if Cmp(f, least) < 0 {
			least = f
		}
	}
	return least, true
}
