package amount

import (
	"math"
	"math/rand/v2"
	"slices"
	"testing"

	"moiety/api"
)

const (
	most  = int64(api.MaxAmount)
	above = most + 1
	low   = int64(math.MinInt64)
	high  = int64(math.MaxInt64)
)

// someAmounts is amounts of all sizes, always the same ones, and the ends.
func someAmounts(n int) []int64 {
	r := rand.New(rand.NewPCG(1, 2))
	l := []int64{0, 1, 2, 3, 5, 99, 100, 199, 999, 1000, 1001, most / 2, most/2 + 1, most - 1, most}
	for range n {
		l = append(l, r.Int64N(most+1)>>r.IntN(50))
	}
	return l
}

// noAmounts is numbers that are no amounts, those next to amounts and the ends among them.
func noAmounts() []int64 {
	return []int64{-1, -2, -most, above, 2 * most, 1 << 62, -1 << 62, low, low + 1, high - 1, high}
}

// P4.1: Check, at both ends of what is an amount.
func TestCheck(t *testing.T) {
	for _, n := range someAmounts(200) {
		if err := Check(n); err != api.OK {
			t.Errorf("Check(%d) = %d", n, err)
		}
	}
	for _, n := range noAmounts() {
		if err := Check(n); err != api.ErrAmountRange {
			t.Errorf("Check(%d) = %d, want %d", n, err, api.ErrAmountRange)
		}
	}
}

type pair struct {
	a, b, want int64
	err        api.Errno
}

// checkPairs holds a call of two amounts against what it is to answer.
func checkPairs(t *testing.T, name string, call func(a, b int64) (int64, api.Errno), l []pair) {
	t.Helper()
	for _, c := range l {
		if n, err := call(c.a, c.b); n != c.want || err != c.err {
			t.Errorf("%s(%d, %d) = %d, %d, want %d, %d", name, c.a, c.b, n, err, c.want, c.err)
		}
	}
}

// P4.1: Add, up to the greatest sum and one above it.
func TestAdd(t *testing.T) {
	checkPairs(t, "Add", Add, []pair{
		{0, 0, 0, api.OK},
		{1, 2, 3, api.OK},
		{200, 100, 300, api.OK},
		{most, 0, most, api.OK},
		{0, most, most, api.OK},
		{most - 1, 1, most, api.OK},
		{1, most - 1, most, api.OK},
		{most / 2, most / 2, most, api.OK},
		{most, 1, 0, api.ErrAmountRange},
		{1, most, 0, api.ErrAmountRange},
		{most/2 + 1, most / 2, 0, api.ErrAmountRange},
		{most, most, 0, api.ErrAmountRange},
	})
}

// P4.1: of what is no amount there is no sum, though the two may come to an amount, or come round to one.
func TestAddWrong(t *testing.T) {
	checkPairs(t, "Add", Add, []pair{
		{-1, 0, 0, api.ErrAmountRange},
		{0, -1, 0, api.ErrAmountRange},
		{-1, 1, 0, api.ErrAmountRange},
		{5, -3, 0, api.ErrAmountRange},
		{above, -1, 0, api.ErrAmountRange},
		{-1, above, 0, api.ErrAmountRange},
		{above, 0, 0, api.ErrAmountRange},
		{0, above, 0, api.ErrAmountRange},
		{high, 1, 0, api.ErrAmountRange},
		{high, high, 0, api.ErrAmountRange},
		{low, low, 0, api.ErrAmountRange},
		{low, high, 0, api.ErrAmountRange},
		{high, low + 2, 0, api.ErrAmountRange},
		{low, -1, 0, api.ErrAmountRange},
	})
	for _, bad := range noAmounts() {
		for _, n := range append(someAmounts(20), noAmounts()...) {
			checkPairs(t, "Add", Add, []pair{{bad, n, 0, api.ErrAmountRange}, {n, bad, 0, api.ErrAmountRange}})
		}
	}
}

// P4.1: Sub, down to nothing and one below it.
func TestSub(t *testing.T) {
	checkPairs(t, "Sub", Sub, []pair{
		{0, 0, 0, api.OK},
		{3, 2, 1, api.OK},
		{300, 100, 200, api.OK},
		{1, 0, 1, api.OK},
		{1, 1, 0, api.OK},
		{most, 0, most, api.OK},
		{most, 1, most - 1, api.OK},
		{most, most - 1, 1, api.OK},
		{most, most, 0, api.OK},
		{1, 2, 0, api.ErrAmountShort},
		{0, 1, 0, api.ErrAmountShort},
		{0, most, 0, api.ErrAmountShort},
		{most - 1, most, 0, api.ErrAmountShort},
	})
}

// P4.1: that one of the two is no amount is told ahead of there being too little.
func TestSubWrong(t *testing.T) {
	checkPairs(t, "Sub", Sub, []pair{
		{-1, 2, 0, api.ErrAmountRange},
		{-1, -2, 0, api.ErrAmountRange},
		{-2, -1, 0, api.ErrAmountRange},
		{2, -1, 0, api.ErrAmountRange},
		{0, above, 0, api.ErrAmountRange},
		{most, above, 0, api.ErrAmountRange},
		{above, 1, 0, api.ErrAmountRange},
		{above, above, 0, api.ErrAmountRange},
		{above, above + 1, 0, api.ErrAmountRange},
		{low, 1, 0, api.ErrAmountRange},
		{low, high, 0, api.ErrAmountRange},
		{high, low, 0, api.ErrAmountRange},
		{0, low, 0, api.ErrAmountRange},
		{0, high, 0, api.ErrAmountRange},
		{high, high, 0, api.ErrAmountRange},
		{low, low, 0, api.ErrAmountRange},
	})
	for _, bad := range noAmounts() {
		for _, n := range append(someAmounts(20), noAmounts()...) {
			checkPairs(t, "Sub", Sub, []pair{{bad, n, 0, api.ErrAmountRange}, {n, bad, 0, api.ErrAmountRange}})
		}
	}
}

// checkTotal holds Total against what it is to answer.
func checkTotal(t *testing.T, l []int64, want int64, wantErr api.Errno) {
	t.Helper()
	if n, err := Total(l...); n != want || err != wantErr {
		t.Errorf("Total of %d, %v .. = %d, %d, want %d, %d", len(l), l[:min(len(l), 8)], n, err, want, wantErr)
	}
}

// P4.1: Total, of none and of many, up to the greatest sum and one above it.
func TestTotal(t *testing.T) {
	if n, err := Total(); n != 0 || err != api.OK {
		t.Errorf("Total() = %d, %d", n, err)
	}
	checkTotal(t, nil, 0, api.OK)
	checkTotal(t, []int64{}, 0, api.OK)
	checkTotal(t, []int64{0}, 0, api.OK)
	checkTotal(t, []int64{7}, 7, api.OK)
	checkTotal(t, []int64{most}, most, api.OK)
	checkTotal(t, []int64{1, 2, 3, 4}, 10, api.OK)
	checkTotal(t, []int64{0, 0, most, 0}, most, api.OK)
	checkTotal(t, []int64{most - 6, 1, 2, 3}, most, api.OK)
	checkTotal(t, []int64{most - 6, 1, 2, 4}, 0, api.ErrAmountRange)
	checkTotal(t, []int64{most, 1}, 0, api.ErrAmountRange)
	checkTotal(t, []int64{1, 0, most, 0}, 0, api.ErrAmountRange)
	checkTotal(t, slices.Repeat([]int64{most / 10000}, 10000), most, api.OK)
	checkTotal(t, append(slices.Repeat([]int64{most / 10000}, 10000), 1), 0, api.ErrAmountRange)
}

// P4.1: amounts whose sum is no int64 have none, though it comes round to an amount.
func TestTotalComesRound(t *testing.T) {
	l := slices.Repeat([]int64{most}, 18447)
	var sum int64
	for _, n := range l {
		sum += n
	}
	if sum < 0 || sum > most {
		t.Fatalf("the numbers come round to %d", sum)
	}
	checkTotal(t, l, 0, api.ErrAmountRange)
	checkTotal(t, l[:9224], 0, api.ErrAmountRange) // one more than an int64 has
}

// P4.1: a number that is no amount is told at any place among many, though all may come to an amount.
func TestTotalWrong(t *testing.T) {
	checkTotal(t, []int64{high, low, 1}, 0, api.ErrAmountRange)
	checkTotal(t, []int64{high, high, 2}, 0, api.ErrAmountRange)
	checkTotal(t, []int64{low, low}, 0, api.ErrAmountRange)
	checkTotal(t, []int64{above, -1}, 0, api.ErrAmountRange)
	for _, bad := range noAmounts() {
		checkTotal(t, []int64{bad}, 0, api.ErrAmountRange)
		for place := range 9 {
			l := []int64{5, 0, 7, 100, 1, 2, 3, 4}
			checkTotal(t, slices.Insert(l, place, bad), 0, api.ErrAmountRange)
		}
	}
	for place := range 1000 {
		l := slices.Repeat([]int64{2}, 1000)
		l[place] = -1
		checkTotal(t, l, 0, api.ErrAmountRange)
		l[place] = above
		checkTotal(t, l, 0, api.ErrAmountRange)
	}
}

// The rules that hold everywhere: what is handed in is not changed, nor the room behind it.
func TestTotalLetsItsListBe(t *testing.T) {
	l := []int64{3, 1, 2, 9}
	Total(l[:3]...)
	Total(l[:2]...)
	if !slices.Equal(l, []int64{3, 1, 2, 9}) {
		t.Error("changed", l)
	}
}

// P4.2: the parts that the chapter's words make.
func TestSplit(t *testing.T) {
	for _, c := range []struct {
		n     int64
		parts int
		want  []int64
	}{
		{7, 3, []int64{3, 2, 2}},
		{0, 2, []int64{0, 0}},
		{8, 3, []int64{3, 3, 2}},
		{9, 3, []int64{3, 3, 3}},
		{0, 1, []int64{0}},
		{5, 1, []int64{5}},
		{most, 1, []int64{most}},
		{2, 5, []int64{1, 1, 0, 0, 0}},
		{4, 5, []int64{1, 1, 1, 1, 0}},
		{5, 5, []int64{1, 1, 1, 1, 1}},
		{6, 5, []int64{2, 1, 1, 1, 1}},
		{most, 3, []int64{333333333333334, 333333333333333, 333333333333333}},
		{most - 1, 2, []int64{500000000000000, 499999999999999}},
	} {
		if l, err := Split(c.n, c.parts); !slices.Equal(l, c.want) || err != api.OK {
			t.Errorf("Split(%d, %d) = %v, %d, want %v", c.n, c.parts, l, err, c.want)
		}
	}
}

// checkSplit holds Split against all that P4.2 says of parts; only one list is so.
func checkSplit(t *testing.T, n int64, parts int) {
	t.Helper()
	l, err := Split(n, parts)
	if err != api.OK || len(l) != parts {
		t.Errorf("Split(%d, %d): %d parts, %d", n, parts, len(l), err)
		return
	}
	var sum int64
	for k, part := range l {
		sum += part
		if k > 0 && part > l[k-1] {
			t.Errorf("Split(%d, %d): part %d is above the one ahead", n, parts, k)
		}
	}
	if first, last := l[0], l[parts-1]; sum != n || last < 0 || first-last > 1 {
		t.Errorf("Split(%d, %d) comes to %d, from %d to %d", n, parts, sum, first, last)
	}
}

// P4.2: any amount in any number of parts, fewer than it and more.
func TestSplitOfAny(t *testing.T) {
	for n := range int64(40) {
		for parts := 1; parts <= 45; parts++ {
			checkSplit(t, n, parts)
		}
	}
	for _, n := range someAmounts(60) {
		for _, parts := range []int{1, 2, 3, 7, 64, 500, 997, api.MaxParts - 1, api.MaxParts} {
			checkSplit(t, n, parts)
		}
	}
	for parts := 1; parts <= api.MaxParts; parts++ {
		checkSplit(t, most, parts)
		checkSplit(t, int64(parts), parts)
		checkSplit(t, int64(parts)-1, parts)
	}
}

// P4.2: the numbers of parts that may not be; what is no amount is told ahead of them.
func TestSplitWrong(t *testing.T) {
	noParts := []int{0, -1, -2, api.MaxParts + 1, api.MaxParts + 2, -api.MaxParts, math.MinInt, math.MaxInt, math.MaxInt32}
	for _, parts := range noParts {
		for _, n := range someAmounts(10) {
			if l, err := Split(n, parts); l != nil || err != api.ErrAmountParts {
				t.Errorf("Split(%d, %d) = %v, %d", n, parts, l, err)
			}
		}
	}
	for _, n := range noAmounts() {
		for _, parts := range append(noParts, 1, 2, api.MaxParts) {
			if l, err := Split(n, parts); l != nil || err != api.ErrAmountRange {
				t.Errorf("Split(%d, %d) = %v, %d", n, parts, l, err)
			}
		}
	}
}

// The rules that hold everywhere: what is handed out is new memory.
func TestSplitIsNew(t *testing.T) {
	a, _ := Split(7, 3)
	b, _ := Split(7, 3)
	a[0], a[1], a[2] = 9, 9, 9
	_ = append(a, 9)
	c, _ := Split(7, 3)
	if want := []int64{3, 2, 2}; !slices.Equal(b, want) || !slices.Equal(c, want) {
		t.Error("changed", b, c)
	}
}
