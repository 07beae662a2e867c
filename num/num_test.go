package num

import (
	"math"
	"math/rand/v2"
	"testing"

	"moiety/api"
)

var minusNought = math.Copysign(0, -1)

// bitsOf makes a float of its bits.
func bitsOf(b uint64) float64 { return math.Float64frombits(b) }

// same is whether two floats have the same bits.
func same(a, b float64) bool { return math.Float64bits(a) == math.Float64bits(b) }

// nones is what is no number, by several bits: quiet and signalling ones, of both signs.
func nones() []float64 {
	return []float64{
		bitsOf(0x7ff8000000000001), bitsOf(0x7ff8000000000000), bitsOf(0x7ff0000000000001), bitsOf(0x7fffffffffffffff),
		bitsOf(0xfff8000000000000), bitsOf(0xfff0000000000001), bitsOf(0xffffffffffffffff),
	}
}

type graded struct {
	f     float64
	class api.Class
}

// ladder is floats of all classes, each above the one ahead of it; no number stands first.
func ladder() []graded {
	return []graded{
		{math.NaN(), api.ClassNone},
		{math.Inf(-1), api.ClassNegInf},
		{-math.MaxFloat64, api.ClassNeg},
		{-1 << 63, api.ClassNeg},
		{-1.5, api.ClassNeg},
		{-1, api.ClassNeg},
		{bitsOf(0x8010000000000000), api.ClassNeg}, // the least size with a hidden bit
		{bitsOf(0x800fffffffffffff), api.ClassNeg},
		{-math.SmallestNonzeroFloat64, api.ClassNeg},
		{minusNought, api.ClassNegZero},
		{0, api.ClassZero},
		{math.SmallestNonzeroFloat64, api.ClassPos},
		{bitsOf(0x000fffffffffffff), api.ClassPos},
		{bitsOf(0x0010000000000000), api.ClassPos},
		{1, api.ClassPos},
		{math.Nextafter(1, 2), api.ClassPos},
		{1 << 63, api.ClassPos},
		{math.MaxFloat64, api.ClassPos},
		{math.Inf(1), api.ClassInf},
	}
}

// anyFloats is floats of any bits, always the same ones.
func anyFloats(n int) []float64 {
	r := rand.New(rand.NewPCG(1, 2))
	l := make([]float64, n)
	for i := range l {
		l[i] = bitsOf(r.Uint64())
	}
	return l
}

func sign(n int) int {
	switch {
	case n < 0:
		return -1
	case n > 0:
		return 1
	}
	return 0
}

// P1.1: each float is of its class; all that are no number are of one.
func TestClass(t *testing.T) {
	for _, g := range ladder() {
		if got := Class(g.f); got != g.class {
			t.Errorf("Class(%v) = %d, want %d", g.f, got, g.class)
		}
	}
	for _, f := range nones() {
		if got := Class(f); got != api.ClassNone {
			t.Errorf("Class(%x) = %d, want ClassNone", math.Float64bits(f), got)
		}
	}
}

// P1.1: floats are ordered by classes, and by sizes within the two classes that have sizes.
func TestCmp(t *testing.T) {
	l := ladder()
	for i, a := range l {
		for k, b := range l {
			if got := Cmp(a.f, b.f); got != sign(i-k) {
				t.Errorf("Cmp(%v, %v) = %d, want %d", a.f, b.f, got, sign(i-k))
			}
		}
	}
	for _, a := range nones() {
		for _, b := range nones() {
			if got := Cmp(a, b); got != 0 {
				t.Errorf("Cmp(%x, %x) = %d, want 0", math.Float64bits(a), math.Float64bits(b), got)
			}
		}
		if Cmp(a, math.Inf(-1)) != -1 || Cmp(math.Inf(-1), a) != 1 {
			t.Errorf("%x is not below minus infinity", math.Float64bits(a))
		}
	}
}

// P1.1: where Go's own comparing tells two floats apart, Cmp tells the same.
func TestCmpIsGosOwn(t *testing.T) {
	l := anyFloats(2000)
	for i := 1; i < len(l); i++ {
		a, b := l[i-1], l[i]
		if got := Cmp(a, b); a < b && got != -1 || a > b && got != 1 {
			t.Errorf("Cmp(%v, %v) = %d", a, b, got)
		}
		if Cmp(a, a) != 0 {
			t.Errorf("Cmp(%v, %v) is not 0", a, a)
		}
	}
}

// P1.2: the keys that the chapter's words make, and the floats that they lead back to.
func TestKey(t *testing.T) {
	for _, c := range []struct {
		f float64
		k uint64
	}{
		{math.Inf(-1), 0x000fffffffffffff},
		{-math.MaxFloat64, 0x0010000000000000},
		{-1, 0x400fffffffffffff},
		{-math.SmallestNonzeroFloat64, 0x7ffffffffffffffe},
		{minusNought, 9223372036854775807},
		{0, 0x8000000000000000},
		{math.SmallestNonzeroFloat64, 0x8000000000000001},
		{1, 13830554455654793216},
		{math.MaxFloat64, 0xffefffffffffffff},
		{math.Inf(1), 0xfff0000000000000},
	} {
		if got := Key(c.f); got != c.k {
			t.Errorf("Key(%v) = %x, want %x", c.f, got, c.k)
		}
		if f, ok := Of(c.k); !ok || !same(f, c.f) {
			t.Errorf("Of(%x) = %v, %v, want %v", c.k, f, ok, c.f)
		}
	}
	for _, f := range nones() {
		if got := Key(f); got != 0 {
			t.Errorf("Key(%x) = %x, want 0", math.Float64bits(f), got)
		}
	}
}

// P1.2: the key 0 is that of the usual one of those that are no number.
func TestOfNone(t *testing.T) {
	if f, ok := Of(0); !ok || math.Float64bits(f) != 0x7ff8000000000001 {
		t.Errorf("Of(0) = %x, %v", math.Float64bits(f), ok)
	}
}

// P1.2: keys that would be those of other bits that are no number lead nowhere, up to the last one on both ends.
func TestOfNobody(t *testing.T) {
	for _, k := range []uint64{
		1, 2, 0x0007fffffffffffe, 0x0007ffffffffffff, 0x000ffffffffffffe,
		0xfff0000000000001, 0xfff8000000000000, 0xfff8000000000001, math.MaxUint64,
	} {
		if f, ok := Of(k); ok || !same(f, 0) {
			t.Errorf("Of(%x) = %v, %v, want 0, false", k, f, ok)
		}
	}
}

// P1.5: the first of the least ones, by the order of P1.1; of none 0 and false.
func TestLeast(t *testing.T) {
	quiet, other := bitsOf(0x7ff8000000000001), bitsOf(0xfff8000000000002)
	for _, c := range []struct {
		l    []float64
		want float64
	}{
		{[]float64{7}, 7},
		{[]float64{3, 1, 2}, 1},
		{[]float64{1, 2, 3}, 1},
		{[]float64{3, 2, 1}, 1},
		{[]float64{0, minusNought}, minusNought},
		{[]float64{minusNought, 0}, minusNought},
		{[]float64{0, 0}, 0},
		{[]float64{math.Inf(1)}, math.Inf(1)},
		{[]float64{-1, math.Inf(-1), -2}, math.Inf(-1)},
		{[]float64{math.Inf(-1), quiet}, quiet},
		{[]float64{1, other, quiet}, other},
		{[]float64{quiet, other}, quiet},
	} {
		if f, ok := Least(c.l...); !ok || !same(f, c.want) {
			t.Errorf("Least(%v) = %x, %v, want %x", c.l, math.Float64bits(f), ok, math.Float64bits(c.want))
		}
	}
	if f, ok := Least(); ok || !same(f, 0) {
		t.Errorf("Least() = %v, %v", f, ok)
	}
	if f, ok := Least([]float64{}...); ok || !same(f, 0) {
		t.Errorf("Least of an empty list = %v, %v", f, ok)
	}
}

// The rules that hold everywhere: what is handed in is not changed.
func TestLeastLetsItsListBe(t *testing.T) {
	l := []float64{3, math.NaN(), 1}
	spare := append(l, 9)[:3]
	Least(spare...)
	if spare[0] != 3 || spare[1] == spare[1] || spare[2] != 1 || spare[:4][3] != 9 {
		t.Error("changed", spare[:4])
	}
}

// P1.6: keys are ordered as their floats are, and Of leads back.
func TestKeysFollowFloats(t *testing.T) {
	l := anyFloats(2000)
	for _, g := range ladder() {
		l = append(l, g.f)
	}
	l = append(l, nones()...)
	for i, a := range l {
		b := l[(i*7+3)%len(l)]
		if ka, kb := Key(a), Key(b); (ka < kb) != (Cmp(a, b) < 0) || (ka == kb) != (Cmp(a, b) == 0) {
			t.Errorf("keys %x, %x of %v, %v", ka, kb, a, b)
		}
		want := a
		if math.IsNaN(a) {
			want = bitsOf(0x7ff8000000000001)
		}
		if f, ok := Of(Key(a)); !ok || !same(f, want) {
			t.Errorf("Of(Key(%v)) = %v, %v", a, f, ok)
		}
	}
}

// P1.6 and P1.2: a key that leads to a float is that float's, and any other one leads nowhere.
func TestOfOfAnyKey(t *testing.T) {
	r := rand.New(rand.NewPCG(3, 4))
	for range 2000 {
		k := r.Uint64()
		f, ok := Of(k)
		if ok && Key(f) != k {
			t.Errorf("Of(%x) = %v with the key %x", k, f, Key(f))
		}
		nobody := k != 0 && k < 0x000fffffffffffff || k > 0xfff0000000000000
		if ok == nobody || !ok && !same(f, 0) {
			t.Errorf("Of(%x) = %v, %v", k, f, ok)
		}
	}
}
