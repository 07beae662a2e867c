package amount

import (
	"math"
	"math/big"
	"math/rand/v2"
	"slices"
	"testing"

	"moiety/api"
)

var (
	minusNought = math.Copysign(0, -1)
	belowOne    = math.Nextafter(1, 0)
	aboveOne    = math.Nextafter(1, 2)
)

// someRates is rates by their rising sizes, always the same ones, the ends among them.
func someRates(n int) []float64 {
	r := rand.New(rand.NewPCG(3, 4))
	l := []float64{
		0, math.SmallestNonzeroFloat64, math.Float64frombits(0x000fffffffffffff), math.Float64frombits(0x0010000000000000),
		1e-300, 1e-15, 0x1p-50, 1e-6, 0.001, 0.01, math.Nextafter(0.01, 0), math.Nextafter(0.01, 1), 0.07, 0.1, 0.25, 0.29,
		1.0 / 3, 0.5, math.Nextafter(0.5, 0), math.Nextafter(0.5, 1), 2.0 / 3, 0.7, 0.99, belowOne, 1,
	}
	for range n {
		l = append(l, math.Ldexp(r.Float64(), -r.IntN(60)))
	}
	slices.Sort(l)
	return append([]float64{minusNought}, l...)
}

// noRates is floats that are no rates: those next to rates, the infinite ones, and no number by several bits, quiet and signalling ones of both signs.
func noRates() []float64 {
	l := []float64{
		aboveOne, 1.5, 2, 1e9, math.MaxFloat64, math.Inf(1), math.Inf(-1),
		-math.SmallestNonzeroFloat64, -0.01, -0.5, -belowOne, -1, -aboveOne, -1.5, -math.MaxFloat64,
	}
	for _, b := range []uint64{
		0x7ff8000000000001, 0x7ff8000000000000, 0x7ff0000000000001, 0x7fffffffffffffff,
		0xfff8000000000000, 0xfff0000000000001, 0xffffffffffffffff,
	} {
		l = append(l, math.Float64frombits(b))
	}
	return l
}

// P4.3: Rate, at both ends of what is a rate, and of what is none.
func TestRate(t *testing.T) {
	for _, f := range someRates(200) {
		if err := Rate(f); err != api.OK {
			t.Errorf("Rate(%v) = %d", f, err)
		}
	}
	for _, f := range noRates() {
		if err := Rate(f); err != api.ErrAmountRate {
			t.Errorf("Rate(%x) = %d, want %d", math.Float64bits(f), err, api.ErrAmountRate)
		}
	}
}

// P4.3: fees whose exact product is a whole number, a little above one, and a little below one.
func TestFee(t *testing.T) {
	for _, c := range []struct {
		n    int64
		rate float64
		want int64
	}{
		{199, 0.01, 1},
		{200, 0.01, 2},
		{100, 1, 100},
		{199, 1, 199},
		{199, minusNought, 0},
		{5, minusNought, 0},
		{5, 0, 0},
		{0, 0, 0},
		{0, minusNought, 0},
		{0, 0.5, 0},
		{0, 1, 0},
		{1, 1, 1},
		{most, 1, most},
		{most, 0, 0},
		{most, minusNought, 0},

		{8, 0.5, 4}, // whole
		{7, 0.5, 3},
		{1, 0.5, 0},
		{6, 0.25, 1},
		{8, 0.25, 2},
		{most, 0.5, 500000000000000},
		{most - 1, 0.5, 499999999999999},
		{most - 2, 0.5, 499999999999999},

		{100, 0.01, 1}, // 0.01 is a little above a hundredth
		{99, 0.01, 0},
		{100, math.Nextafter(0.01, 0), 0},
		{10, 0.1, 1}, // 0.1 is a little above a tenth
		{10, math.Nextafter(0.1, 0), 0},
		{10, 0.7, 6},    // 0.7 is a little below seven tenths
		{100, 0.29, 28}, // and 0.29 below 29 hundredths
		{100, math.Nextafter(0.29, 1), 29},
		{3, 1.0 / 3, 0}, // a third is, too
		{3, math.Nextafter(1.0/3, 1), 1},
		{2, math.Nextafter(0.5, 0), 0},
		{2, math.Nextafter(0.5, 1), 1},

		{1, math.SmallestNonzeroFloat64, 0},
		{most, math.SmallestNonzeroFloat64, 0},
		{most, 0x1p-50, 0},
		{most, 1e-15, 1},
		{most, math.Nextafter(1e-15, 0), 0},
		{1, belowOne, 0},
		{2, belowOne, 1},
		{most, belowOne, most - 1},
		{most - 1, belowOne, most - 2},
		{most, math.Nextafter(0.5, 0), 499999999999999},
	} {
		if n, err := Fee(c.n, c.rate); n != c.want || err != api.OK {
			t.Errorf("Fee(%d, %v) = %d, %d, want %d", c.n, c.rate, n, err, c.want)
		}
	}
}

// exactFee is the greatest whole number that is not above n times rate, by fractions of any size.
func exactFee(n int64, rate float64) int64 {
	r := new(big.Rat).SetFloat64(rate)
	r.Mul(r, new(big.Rat).SetInt64(n))
	return new(big.Int).Div(r.Num(), r.Denom()).Int64()
}

// P4.3: the fee of any amount by any rate.
func TestFeeIsExact(t *testing.T) {
	for _, rate := range someRates(300) {
		for _, n := range someAmounts(60) {
			if got, err := Fee(n, rate); got != exactFee(n, rate) || err != api.OK {
				t.Errorf("Fee(%d, %v) = %d, %d, want %d", n, rate, got, err, exactFee(n, rate))
			}
		}
	}
}

// P4.3: rates by which the exact product is a whole number, or as little as may be above or below one.
func TestFeeNextToWholes(t *testing.T) {
	for _, n := range someAmounts(60) {
		if n == 0 {
			continue
		}
		for _, part := range []int64{1, 2, 3, 7, n / 3, n / 2, n - 1, n} {
			f := float64(min(part, n)) / float64(n)
			for _, rate := range []float64{math.Nextafter(f, 0), f, math.Nextafter(f, 1)} {
				if got, err := Fee(n, rate); got != exactFee(n, rate) || err != api.OK {
					t.Errorf("Fee(%d, %v) = %d, %d, want %d", n, rate, got, err, exactFee(n, rate))
				}
			}
		}
	}
}

// P4.3: by what is no rate there is no fee, of nothing either; what is no amount is told ahead of it.
func TestFeeWrong(t *testing.T) {
	for _, rate := range noRates() {
		for _, n := range someAmounts(20) {
			if got, err := Fee(n, rate); got != 0 || err != api.ErrAmountRate {
				t.Errorf("Fee(%d, %x) = %d, %d", n, math.Float64bits(rate), got, err)
			}
		}
	}
	for _, n := range noAmounts() {
		for _, rate := range append(noRates(), someRates(10)...) {
			if got, err := Fee(n, rate); got != 0 || err != api.ErrAmountRange {
				t.Errorf("Fee(%d, %x) = %d, %d", n, math.Float64bits(rate), got, err)
			}
		}
	}
}

// P4.4: what was added can be taken again, of either side.
func TestAddedIsTaken(t *testing.T) {
	l := someAmounts(200)
	for i, a := range l {
		for _, b := range l[:i+1] {
			sum, err := Add(a, b)
			if err != api.OK {
				continue
			}
			checkPairs(t, "Sub", Sub, []pair{{sum, a, b, api.OK}, {sum, b, a, api.OK}})
		}
	}
}

// P4.4: sums, and that there is none, don't hang on the order.
func TestSumsInAnyOrder(t *testing.T) {
	r := rand.New(rand.NewPCG(5, 6))
	pool := someAmounts(100)
	summed := 0
	for range 500 {
		l := make([]int64, r.IntN(12))
		for k := range l {
			l[k] = pool[r.IntN(len(pool))]
		}
		if r.IntN(10) == 0 {
			l = append(l, noAmounts()[r.IntN(len(noAmounts()))])
		}
		sum, err := Total(l...)
		if err == api.OK {
			summed++
		}
		for range 5 {
			r.Shuffle(len(l), func(i, k int) { l[i], l[k] = l[k], l[i] })
			checkTotal(t, l, sum, err)
		}
		slices.Sort(l)
		checkTotal(t, l, sum, err)
		slices.Reverse(l)
		checkTotal(t, l, sum, err)
	}
	if summed < 50 || summed > 450 {
		t.Errorf("%d of 500 have a sum", summed)
	}
	for _, a := range pool {
		b := pool[r.IntN(len(pool))]
		sum, err := Add(b, a)
		checkPairs(t, "Add", Add, []pair{{a, b, sum, err}})
	}
}

// P4.2, P4.1: what was split comes to what it was.
func TestPartsComeBack(t *testing.T) {
	for _, n := range someAmounts(60) {
		for _, parts := range []int{1, 3, 10, api.MaxParts} {
			l, _ := Split(n, parts)
			checkTotal(t, l, n, api.OK)
		}
	}
}

// P4.4: a fee is an amount, and at most what it is of; a greater rate, and a greater amount, have no lesser one.
func TestFeesRise(t *testing.T) {
	amounts, rates := someAmounts(100), someRates(100)
	slices.Sort(amounts)
	ahead := make([]int64, len(rates)) // the fees of the amount ahead
	for _, n := range amounts {
		var last int64
		for k, rate := range rates {
			fee, err := Fee(n, rate)
			if err != api.OK || Check(fee) != api.OK || fee > n {
				t.Errorf("Fee(%d, %v) = %d, %d", n, rate, fee, err)
			}
			if fee < last || fee < ahead[k] {
				t.Errorf("Fee(%d, %v) = %d, below %d or %d", n, rate, fee, last, ahead[k])
			}
			last, ahead[k] = fee, fee
		}
	}
}

// P1: every call answers at all arguments, and with an error all else is 0 or empty.
func TestAllAnswer(t *testing.T) {
	ints := append(someAmounts(10), noAmounts()...)
	floats := append(someRates(10), noRates()...)
	held := func(n int64, err api.Errno) {
		t.Helper()
		if err != api.OK && n != 0 || err == api.OK && Check(n) != api.OK {
			t.Errorf("%d beside %d", n, err)
		}
	}
	for _, a := range ints {
		for _, b := range ints {
			held(Add(a, b))
			held(Sub(a, b))
			held(Total(a, b, a))
			if l, err := Split(a, int(b)); (err == api.OK) != (len(l) > 0) {
				t.Errorf("Split(%d, %d): %d parts, %d", a, b, len(l), err)
			}
		}
		for _, f := range floats {
			held(Fee(a, f))
		}
	}
}
