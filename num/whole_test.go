package num

import (
	"math"
	"math/big"
	"math/rand/v2"
	"testing"

	"moiety/api"
)

// P1.3: Floor and Ceil, at the floats that the chapter's words tell apart.
func TestFloorCeil(t *testing.T) {
	under := math.Nextafter(1<<63, 0) // the greatest float that is an int64
	for _, c := range []struct {
		f           float64
		floor, ceil int64
		err         api.Errno
	}{
		{0, 0, 0, api.OK},
		{minusNought, 0, 0, api.OK},
		{0.5, 0, 1, api.OK},
		{-0.5, -1, 0, api.OK},
		{2.5, 2, 3, api.OK},
		{-2.5, -3, -2, api.OK},
		{3, 3, 3, api.OK},
		{-3, -3, -3, api.OK},
		{math.SmallestNonzeroFloat64, 0, 1, api.OK},
		{-math.SmallestNonzeroFloat64, -1, 0, api.OK},
		{math.Nextafter(1, 0), 0, 1, api.OK},
		{math.Nextafter(1, 2), 1, 2, api.OK},
		{1<<51 + 0.5, 1 << 51, 1<<51 + 1, api.OK}, // above it no float has a half
		{-1<<51 - 0.5, -1<<51 - 1, -1 << 51, api.OK},
		{1<<53 + 2, 1<<53 + 2, 1<<53 + 2, api.OK},
		{under, 9223372036854774784, 9223372036854774784, api.OK},
		{1 << 63, 0, 0, api.ErrNumRange},
		{-1 << 63, math.MinInt64, math.MinInt64, api.OK},
		{math.Nextafter(-1<<63, 0), -9223372036854774784, -9223372036854774784, api.OK},
		{math.Nextafter(-1<<63, math.Inf(-1)), 0, 0, api.ErrNumRange},
		{math.MaxFloat64, 0, 0, api.ErrNumRange},
		{-math.MaxFloat64, 0, 0, api.ErrNumRange},
		{math.Inf(1), 0, 0, api.ErrNumRange},
		{math.Inf(-1), 0, 0, api.ErrNumRange},
	} {
		if n, err := Floor(c.f); n != c.floor || err != c.err {
			t.Errorf("Floor(%v) = %d, %d, want %d, %d", c.f, n, err, c.floor, c.err)
		}
		if n, err := Ceil(c.f); n != c.ceil || err != c.err {
			t.Errorf("Ceil(%v) = %d, %d, want %d, %d", c.f, n, err, c.ceil, c.err)
		}
	}
	for _, f := range nones() {
		if n, err := Floor(f); n != 0 || err != api.ErrNumNone {
			t.Errorf("Floor(%x) = %d, %d", math.Float64bits(f), n, err)
		}
		if n, err := Ceil(f); n != 0 || err != api.ErrNumNone {
			t.Errorf("Ceil(%x) = %d, %d", math.Float64bits(f), n, err)
		}
	}
}

// P1.3: against whole numbers of any size, for floats of any bits and for such as have both a whole part and a fraction.
func TestFloorCeilOfAny(t *testing.T) {
	l := anyFloats(2000)
	r := rand.New(rand.NewPCG(5, 6))
	for range 2000 {
		l = append(l, math.Ldexp(r.Float64()-0.5, r.IntN(66)))
	}
	for _, f := range l {
		if math.IsNaN(f) || math.IsInf(f, 0) {
			continue
		}
		r := new(big.Rat).SetFloat64(f)
		want, wantErr := asInt(below(r))
		if n, err := Floor(f); n != want || err != wantErr {
			t.Errorf("Floor(%v) = %d, %d, want %d, %d", f, n, err, want, wantErr)
		}
		above := below(r.Neg(r))
		want, wantErr = asInt(above.Neg(above))
		if n, err := Ceil(f); n != want || err != wantErr {
			t.Errorf("Ceil(%v) = %d, %d, want %d, %d", f, n, err, want, wantErr)
		}
	}
}

// below is the greatest whole number that is not above r.
func below(r *big.Rat) *big.Int {
	return new(big.Int).Div(r.Num(), r.Denom()) // by a number above 0 it goes down
}

// asInt is n, or the error of what is no int64.
func asInt(n *big.Int) (int64, api.Errno) {
	if !n.IsInt64() {
		return 0, api.ErrNumRange
	}
	return n.Int64(), api.OK
}

// exact is n times f as P1.4 tells it, for a finite f, by fractions of any size.
func exact(n int64, f float64) (int64, api.Errno) {
	r := new(big.Rat).SetFloat64(f)
	return asInt(below(r.Mul(r, new(big.Rat).SetInt64(n))))
}

// checkExact holds Times against exact.
func checkExact(t *testing.T, n int64, f float64) {
	t.Helper()
	want, wantErr := exact(n, f)
	if got, err := Times(n, f); got != want || err != wantErr {
		t.Errorf("Times(%d, %v) = %d, %d, want %d, %d", n, f, got, err, want, wantErr)
	}
}

// P1.4: Times, at the products that the chapter's words tell apart.
func TestTimes(t *testing.T) {
	const least, most = math.MinInt64, math.MaxInt64
	under := math.Nextafter(1, 0)
	for _, c := range []struct {
		n    int64
		f    float64
		want int64
		err  api.Errno
	}{
		{7, 0.5, 3, api.OK},
		{-7, 0.5, -4, api.OK},
		{7, -0.5, -4, api.OK},
		{-7, -0.5, 3, api.OK},
		{8, 0.5, 4, api.OK},
		{-8, 0.5, -4, api.OK},
		{3, 0.1, 0, api.OK},
		{10, 0.1, 1, api.OK}, // 0.1 is a little above a tenth
		{-10, 0.1, -2, api.OK},
		{10, 0.7, 6, api.OK}, // 0.7 is a little below seven tenths
		{3, 1.0 / 3, 0, api.OK},
		{199, 0.01, 1, api.OK},
		{5, minusNought, 0, api.OK},
		{-5, minusNought, 0, api.OK},
		{5, 0, 0, api.OK},
		{0, 0, 0, api.OK},
		{0, minusNought, 0, api.OK},
		{0, -1.5, 0, api.OK},
		{0, math.MaxFloat64, 0, api.OK},
		{0, math.SmallestNonzeroFloat64, 0, api.OK},
		{least, minusNought, 0, api.OK},

		{most, 1, most, api.OK},
		{most, -1, least + 1, api.OK},
		{least, 1, least, api.OK},
		{least, -1, 0, api.ErrNumRange},
		{least, -under, 9223372036854774784, api.OK},
		{most, under, 9223372036854774783, api.OK},
		{least, under, -9223372036854774784, api.OK},
		{most, math.Nextafter(1, 2), 0, api.ErrNumRange},
		{least, math.Nextafter(1, 2), 0, api.ErrNumRange},
		{most, 2, 0, api.ErrNumRange},
		{least, 2, 0, api.ErrNumRange},
		{1 << 62, 2, 0, api.ErrNumRange},
		{-1 << 62, 2, least, api.OK},
		{1 << 62, -2, least, api.OK},
		{-1<<62 - 1, 2, 0, api.ErrNumRange},
		{1<<62 - 1, 2, most - 1, api.OK},
		{1 << 62, 1.5, 6917529027641081856, api.OK},
		{1, 1 << 63, 0, api.ErrNumRange},
		{-1, 1 << 63, least, api.OK},
		{1, -1 << 63, least, api.OK},
		{-1, -1 << 63, 0, api.ErrNumRange},
		{1, math.Nextafter(1<<63, 0), 9223372036854774784, api.OK},
		{1, 1 << 64, 0, api.ErrNumRange},
		{1, math.MaxFloat64, 0, api.ErrNumRange},
		{-1, math.MaxFloat64, 0, api.ErrNumRange},
		{most, math.MaxFloat64, 0, api.ErrNumRange},
		{least, -math.MaxFloat64, 0, api.ErrNumRange},

		{1<<30 + 16, bitsOf(0x41fffffff8000002), 0, api.ErrNumRange}, // a little above 2^63
		{-1<<30 - 16, bitsOf(0x41fffffff8000002), 0, api.ErrNumRange},
		{1<<30 + 16, bitsOf(0xc1fffffff8000002), 0, api.ErrNumRange},
		{1<<30 + 1023, bitsOf(0x41fffffe00801ff0), most, api.OK}, // a little below 2^63
		{-1<<30 - 1023, bitsOf(0x41fffffe00801ff0), least, api.OK},
		{1<<30 + 1023, bitsOf(0xc1fffffe00801ff0), least, api.OK},
		{-1<<30 - 1023, bitsOf(0xc1fffffe00801ff0), most, api.OK},

		{1, math.SmallestNonzeroFloat64, 0, api.OK},
		{-1, math.SmallestNonzeroFloat64, -1, api.OK},
		{1, -math.SmallestNonzeroFloat64, -1, api.OK},
		{least, math.SmallestNonzeroFloat64, -1, api.OK},
		{least, -math.SmallestNonzeroFloat64, 0, api.OK},
		{most, math.SmallestNonzeroFloat64, 0, api.OK},
		{most, 1.0 / (1 << 63), 0, api.OK},
		{least, -1.0 / (1 << 63), 1, api.OK},
		{least, 1.0 / (1 << 63), -1, api.OK},
		{least + 1, 1.0 / (1 << 63), -1, api.OK},
	} {
		if n, err := Times(c.n, c.f); n != c.want || err != c.err {
			t.Errorf("Times(%d, %v) = %d, %d, want %d, %d", c.n, c.f, n, err, c.want, c.err)
		}
	}
}

// P1.4: no number comes ahead of infinity, and infinity by 0 ahead of what is no int64.
func TestTimesWrong(t *testing.T) {
	for _, n := range []int64{0, 1, -1, math.MaxInt64, math.MinInt64} {
		for _, f := range nones() {
			if got, err := Times(n, f); got != 0 || err != api.ErrNumNone {
				t.Errorf("Times(%d, %x) = %d, %d", n, math.Float64bits(f), got, err)
			}
		}
		want := api.ErrNumRange
		if n == 0 {
			want = api.ErrNumNone
		}
		for _, s := range []int{-1, 1} {
			if got, err := Times(n, math.Inf(s)); got != 0 || err != want {
				t.Errorf("Times(%d, %v) = %d, %d, want %d", n, math.Inf(s), got, err, want)
			}
		}
	}
}

// P1.4: products whose whole number is just within or just outside int64, at both ends.
func TestTimesAtTheEnds(t *testing.T) {
	for e := 1; e < 63; e++ {
		f := math.Ldexp(1, e)
		top := int64(1) << (63 - e) // top times f is 2^63
		for _, d := range []int64{-1, 0, 1} {
			for _, g := range []float64{f, math.Nextafter(f, 0), math.Nextafter(f, math.Inf(1))} {
				checkExact(t, top+d, g)
				checkExact(t, top+d, -g)
				checkExact(t, -top-d, g)
				checkExact(t, -top-d, -g)
			}
		}
	}
}

// someInts is int64s of all sizes and both signs, always the same ones, and the ends.
func someInts() []int64 {
	r := rand.New(rand.NewPCG(7, 8))
	l := []int64{0, 1, -1, 2, 3, math.MaxInt64, math.MaxInt64 - 1, math.MinInt64, math.MinInt64 + 1, api.MaxAmount}
	for range 90 {
		l = append(l, int64(r.Uint64())>>r.IntN(64))
	}
	return l
}

// P1.4: against fractions of any size.
func TestTimesIsExact(t *testing.T) {
	l := anyFloats(300)
	r := rand.New(rand.NewPCG(9, 10))
	for range 700 {
		l = append(l, math.Ldexp(r.Float64()-0.5, r.IntN(200)-135)) // where the whole number of the product is told apart
	}
	for _, g := range ladder() {
		l = append(l, g.f)
	}
	for _, f := range l {
		if math.IsNaN(f) || math.IsInf(f, 0) {
			continue
		}
		for _, n := range someInts() {
			checkExact(t, n, f)
		}
	}
}

// P1.6: a greater n has no lesser product with a float that is not below 0.
func TestTimesRises(t *testing.T) {
	for _, f := range []float64{minusNought, 0, math.SmallestNonzeroFloat64, 1e-19, 0.01, 0.1, 1.0 / 3, 0.5, math.Nextafter(1, 0), 1, 1.5, 1e9} {
		for _, n := range someInts() {
			if n == math.MaxInt64 {
				continue
			}
			a, errA := Times(n, f)
			b, errB := Times(n+1, f)
			if errA == api.OK && errB == api.OK && a > b {
				t.Errorf("by %v: %d comes to %d, %d to %d", f, n, a, n+1, b)
			}
		}
	}
}

// P1.6: by a half, a quarter and so on, n is shifted.
func TestTimesShifts(t *testing.T) {
	for _, n := range someInts() {
		for e := range 1075 {
			got, err := Times(n, math.Ldexp(1, -e))
			if want := n >> e; got != want || err != api.OK {
				t.Fatalf("Times(%d, 2^-%d) = %d, %d, want %d", n, e, got, err, want)
			}
		}
	}
}

// P1: every call answers at all floats of a walk over exponents, fractions and signs, and with an error all else is 0.
func TestAllAnswer(t *testing.T) {
	for top := range uint64(1 << 12) {
		for _, low := range []uint64{0, 1, 1 << 51, 1<<52 - 1} {
			f := bitsOf(top<<52 | low)
			Class(f)
			Cmp(f, -f)
			if g, ok := Of(Key(f)); !ok || Cmp(f, g) != 0 {
				t.Errorf("Of(Key(%v)) = %v, %v", f, g, ok)
			}
			if g, ok := Of(math.Float64bits(f)); !ok && !same(g, 0) {
				t.Errorf("Of(%x) = %v, false", math.Float64bits(f), g)
			}
			if n, err := Floor(f); err != api.OK && n != 0 {
				t.Errorf("Floor(%v) = %d, %d", f, n, err)
			}
			if n, err := Ceil(f); err != api.OK && n != 0 {
				t.Errorf("Ceil(%v) = %d, %d", f, n, err)
			}
			for _, n := range []int64{0, 1, -1, 3, math.MaxInt64, math.MinInt64} {
				if got, err := Times(n, f); err != api.OK && got != 0 {
					t.Errorf("Times(%d, %v) = %d, %d", n, f, got, err)
				}
			}
		}
	}
}
