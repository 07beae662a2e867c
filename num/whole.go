package num

import (
	"math"
	"math/bits"

	"moiety/api"
)

const (
	fractionBits = 52                        // of a float's bits, the lowest ones
	exponentBits = 1<<11 - 1                 // those above them, moved down
	exponentBias = 1023 + fractionBits       // what the exponent says too much, for a fraction taken as a whole number
	hiddenBit    = uint64(1) << fractionBits // stands ahead of the fraction, but in the least floats
)

// Floor is the greatest int64 that is not above f.
func Floor(f float64) (int64, api.Errno) { return toInt(math.Floor(f)) }

// Ceil is the least int64 that is not below f.
func Ceil(f float64) (int64, api.Errno) { return toInt(math.Ceil(f)) }

// toInt is the int64 that a float without a fraction is.
func toInt(f float64) (int64, api.Errno) {
	switch {
	case math.IsNaN(f):
		return 0, api.ErrNumNone
	case f < math.MinInt64 || f >= -math.MinInt64: // MaxInt64 itself is no float
		return 0, api.ErrNumRange
	}
	return int64(f), api.OK
}

// Times is the greatest int64 that is not above n times f.
func Times(n int64, f float64) (int64, api.Errno) {
	infinite := math.IsInf(f, 0)
	switch {
	case math.IsNaN(f) || infinite && n == 0:
		return 0, api.ErrNumNone
	case infinite:
		return 0, api.ErrNumRange
	case n == 0 || f == 0:
		return 0, api.OK
	}
	m, e := split(f)
	p := product(size(n), m)
	if p.length()+e > 64 {
		return 0, api.ErrNumRange
	}
	whole, cut := p.shift(e)
	return floored(whole, cut, (n < 0) != (f < 0))
}

// split is the m and the e by which a finite float's size is m times 2 to the power of e.
func split(f float64) (m uint64, e int) {
	b := math.Float64bits(f)
	m, e = b&(hiddenBit-1), int(b>>fractionBits&exponentBits)
	if e == 0 {
		return m, 1 - exponentBias
	}
	return m | hiddenBit, e - exponentBias
}

// size is a number without its sign.
func size(n int64) uint64 {
	if n < 0 {
		return -uint64(n) // MinInt64's own size is no int64
	}
	return uint64(n)
}

// wide is a whole number of 128 bits, none of them lost when two of 64 are multiplied.
type wide struct{ hi, lo uint64 }

func product(a, b uint64) wide {
	hi, lo := bits.Mul64(a, b)
	return wide{hi, lo}
}

// length is how many bits w has, without noughts ahead.
func (w wide) length() int {
	if w.hi != 0 {
		return 64 + bits.Len64(w.hi)
	}
	return bits.Len64(w.lo)
}

// shift is w times 2 to the power of e, of which at most 64 bits are whole, and whether something behind these was cut off. w is no 0.
func (w wide) shift(e int) (whole uint64, cut bool) {
	switch {
	case e >= 0:
		return w.lo << e, false
	case e > -64:
		return w.hi<<(64+e) | w.lo>>-e, w.lo<<(64+e) != 0
	case e > -128:
		return w.hi >> (-e - 64), w.lo != 0 || w.hi<<(128+e) != 0
	}
	return 0, true
}

// floored is the greatest int64 that is not above a number, whose size is whole and a bit more, if some was cut off.
func floored(whole uint64, cut, below bool) (int64, api.Errno) {
	const out = 1 << 63
	switch {
	case !below && whole < out:
		return int64(whole), api.OK
	case below && !cut && whole <= out:
		return int64(-whole), api.OK
	case below && cut && whole < out:
		return int64(^whole), api.OK // one below -whole
	}
	return 0, api.ErrNumRange
}
