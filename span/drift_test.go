package span

import (
	"math"
	"math/big"
	"math/rand/v2"
	"slices"
	"testing"

	"moiety/api"
)

var (
	minusNought = math.Copysign(0, -1)
	least       = math.SmallestNonzeroFloat64
	belowOne    = math.Nextafter(1, 0)
	aboveOne    = math.Nextafter(1, 2)
)

// up is the float behind f, down the one ahead of it.
func up(f float64) float64   { return math.Nextafter(f, math.Inf(1)) }
func down(f float64) float64 { return math.Nextafter(f, math.Inf(-1)) }

// someRates is rates by their rising sizes, always the same ones, the ends among them.
func someRates(n int) []float64 {
	r := rand.New(rand.NewPCG(3, 4))
	l := []float64{0, least, 0x1p-1022, down(0x1p-1022), 1e-300, 0x1p-51, 0x1p-50, 1e-9, 0.001, 0.01, up(0.01), 0.1, 0.25, 0.29, 0.5, down(0.5), up(0.5), 0.7, belowOne, 1}
	for range n {
		l = append(l, math.Ldexp(r.Float64(), -r.IntN(60)))
	}
	slices.Sort(l)
	return append([]float64{minusNought}, l...)
}

// noRates is floats that are no rates: those next to rates, the infinite ones, and no number by several bits, quiet and signalling ones of both signs.
func noRates() []float64 {
	l := []float64{
		aboveOne, 1.5, 2, 1e9, math.MaxFloat64, math.Inf(1), math.Inf(-1),
		-least, -0.001, -0.5, -belowOne, -1, -aboveOne, -math.MaxFloat64,
	}
	for _, b := range []uint64{0x7ff8000000000001, 0x7ff8000000000000, 0x7ff0000000000001, 0x7fffffffffffffff} {
		l = append(l, math.Float64frombits(b), math.Float64frombits(b|1<<63))
	}
	return l
}

// checkDrift holds Drift against what it is to answer.
func checkDrift(t *testing.T, s api.Span, elapsed int64, rate float64, want api.Span, wantErr api.Errno) {
	t.Helper()
	if got, err := Drift(s, elapsed, rate); got != want || err != wantErr {
		t.Errorf("Drift(%v, %d, %v) = %v, %d, want %v, %d", s, elapsed, rate, got, err, want, wantErr)
	}
}

// P5.2: by how much a span is widened: where the exact product is a whole number, a little above one, and a little below one.
func TestDriftBy(t *testing.T) {
	for _, c := range []struct {
		elapsed int64
		rate    float64
		by      int64
	}{
		{1000, 0.001, 2}, // 0.001 is a little above a thousandth
		{1001, 0.001, 2},
		{999, 0.001, 1},
		{1000, down(0.001), 1},
		{100, 0.01, 2}, // and 0.01 above a hundredth
		{99, 0.01, 1},
		{101, 0.01, 2},
		{100, down(0.01), 1},
		{10, 0.1, 2}, // and 0.1 above a tenth
		{10, down(0.1), 1},
		{10, 0.7, 7}, // 0.7 is a little below seven tenths
		{10, up(0.7), 8},
		{100, 0.29, 29}, // and 0.29 below 29 hundredths
		{100, up(0.29), 30},
		{3, 1.0 / 3, 1}, // and a third below a third
		{3, up(1.0 / 3), 2},

		{8, 0.5, 4}, // whole
		{7, 0.5, 4},
		{9, 0.5, 5},
		{1, 0.5, 1},
		{8, 0.25, 2},
		{9, 0.25, 3},
		{2, down(0.5), 1},
		{2, up(0.5), 2},
		{most, 0x1p-50, 1},
		{most, down(0x1p-50), 1},
		{most, up(0x1p-50), 2},
		{most - 1, 0x1p-50, 1},
		{most, 0x1p-49, 2},
		{most - 1, 0x1p-49, 2},
		{most/2 + 1, 0x1p-49, 2},

		{0, 0, 0},
		{0, minusNought, 0},
		{0, least, 0},
		{0, 0.5, 0},
		{0, 1, 0},
		{1, 0, 0},
		{1, minusNought, 0},
		{1000, minusNought, 0},
		{most, 0, 0},
		{most, minusNought, 0},
		{1, least, 1},
		{2, least, 1},
		{most, least, 1},
		{1, belowOne, 1},
		{2, belowOne, 2},
		{1000, belowOne, 1000},
		{1, 1, 1},
		{1000, 1, 1000},
	} {
		for _, s := range []api.Span{of(2000, 2000), of(5000, 9000), of(most-3000, most-2000)} {
			checkDrift(t, s, c.elapsed, c.rate, of(s.Lo-c.by, s.Hi+c.by), api.OK)
		}
	}
}

// P5.2: the chapter's examples, and what is cut off at 0, at MaxTime, and at both.
func TestDriftCut(t *testing.T) {
	for _, c := range []struct {
		s       api.Span
		elapsed int64
		rate    float64
		want    api.Span
	}{
		{of(100, 100), 1000, 0.001, of(98, 102)},
		{of(100, 100), 1001, 0.001, of(98, 102)},
		{of(4, 9), 8, 0.5, of(0, 13)},
		{of(3, 9), 8, 0.5, of(0, 13)},
		{of(3, 9), 3, 1, of(0, 12)},
		{of(3, 9), 4, 1, of(0, 13)},
		{of(most-9, most-4), 8, 0.5, of(most-13, most)},
		{of(most-9, most-3), 8, 0.5, of(most-13, most)},
		{of(1, most-1), 2, 0.5, of(0, most)},
		{of(1, most-1), 3, 0.5, of(0, most)},
		{of(1, most-1), 1, 0, of(1, most-1)},
		{of(0, 0), 0, 1, of(0, 0)},
		{of(0, 0), most, 1, of(0, most)},
		{of(0, 0), most, belowOne, of(0, most)},
		{of(0, 0), most, down(belowOne), of(0, most)},
		{of(0, 0), most - 1, 1, of(0, most-1)},
		{of(0, 0), most, least, of(0, 1)},
		{of(most, most), most, 1, of(0, most)},
		{of(most, most), most, 0.5, of(most/2, most)},
		{of(most, most), most, minusNought, of(most, most)},
		{of(0, most), most, 1, of(0, most)},
		{of(0, most), 0, 0, of(0, most)},
	} {
		checkDrift(t, c.s, c.elapsed, c.rate, c.want, api.OK)
	}
}

// exactly is the least whole number that isn't below n times rate, by fractions of any size.
func exactly(n int64, rate float64) int64 {
	r := new(big.Rat).SetFloat64(rate)
	r.Mul(r, new(big.Rat).SetInt64(-n))
	return -new(big.Int).Div(r.Num(), r.Denom()).Int64()
}

// P5.2: any span behind any time, by any rate, and by rates next to those of which the product is whole.
func TestDriftIsExact(t *testing.T) {
	spans := []api.Span{of(0, 0), of(100, 2000), of(most/2, most/2), of(3, most-3), of(most-1000, most-10), of(most, most)}
	for _, elapsed := range someTimes(40) {
		rates := someRates(60)
		if elapsed > 0 {
			for _, part := range []int64{1, elapsed / 3, elapsed / 2, elapsed - 1} {
				f := float64(part) / float64(elapsed)
				rates = append(rates, max(0, down(f)), f, min(1, up(f)))
			}
		}
		for _, rate := range rates {
			by := exactly(elapsed, rate)
			for _, s := range spans {
				checkDrift(t, s, elapsed, rate, widened(s, by), api.OK)
			}
		}
	}
}

// P5.2: what is no span is told ahead of what is no width, and that ahead of what is no rate, also where nothing passed.
func TestDriftWrong(t *testing.T) {
	rates := append(someRates(3), noRates()...)
	for _, s := range noSpans() {
		for _, elapsed := range append(noTimes(), 0, 1, most) {
			for _, rate := range []float64{0, 0.5, aboveOne, math.NaN()} {
				checkDrift(t, s, elapsed, rate, api.Span{}, api.ErrSpanNone)
			}
		}
	}
	for _, s := range someSpans(0) {
		for _, elapsed := range noTimes() {
			for _, rate := range rates {
				checkDrift(t, s, elapsed, rate, api.Span{}, api.ErrSpanWidth)
			}
		}
		for _, elapsed := range someTimes(3) {
			for _, rate := range noRates() {
				checkDrift(t, s, elapsed, rate, api.Span{}, api.ErrSpanRate)
			}
		}
	}
}

// P5.4: more time makes no narrower span, nor does a greater rate, a greater width, or a span that has the other one.
func TestMoreIsNoNarrower(t *testing.T) {
	within := func(s, in api.Span, err api.Errno) api.Span {
		t.Helper()
		if err != api.OK || in.Lo > s.Lo || in.Hi < s.Hi {
			t.Errorf("%v isn't in %v, %d", s, in, err)
		}
		return in
	}
	elapsed, rates := someTimes(20), someRates(20)
	slices.Sort(elapsed)
	for _, s := range someSpans(2) {
		wide := s
		for _, by := range elapsed {
			got, err := Widen(s, by)
			wide = within(wide, got, err)
			got, err = Widen(of(s.Lo/2, s.Hi), by)
			within(wide, got, err)
		}
		for _, rate := range rates {
			drifted := s
			for _, passed := range elapsed {
				got, err := Drift(s, passed, rate)
				drifted = within(drifted, got, err)
			}
		}
		for _, passed := range elapsed {
			drifted := s
			for _, rate := range rates {
				got, err := Drift(s, passed, rate)
				drifted = within(drifted, got, err)
			}
		}
	}
}
