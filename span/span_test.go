package span

import (
	"math"
	"math/rand/v2"
	"testing"

	"moiety/api"
)

const (
	most  = int64(api.MaxTime)
	above = most + 1
	low   = int64(math.MinInt64)
	high  = int64(math.MaxInt64)
)

// of is the times from lo to hi, whether they are a span or not.
func of(lo, hi int64) api.Span { return api.Span{Lo: lo, Hi: hi} }

// someTimes is times of all sizes, always the same ones, and the ends; widths have the same ends.
func someTimes(n int) []int64 {
	r := rand.New(rand.NewPCG(1, 2))
	l := []int64{0, 1, 2, 3, 10, 999, 1000, 1001, most / 2, most/2 + 1, most - 10, most - 2, most - 1, most}
	for range n {
		l = append(l, r.Int64N(most+1)>>r.IntN(50))
	}
	return l
}

// noTimes is numbers that are no times, those next to times and the ends among them.
func noTimes() []int64 {
	return []int64{-1, -2, -most, above, above + 1, 2 * most, 1 << 62, -1 << 62, low, low + 1, high - 1, high}
}

// someSpans is spans of one time and of more, up to all times.
func someSpans(n int) []api.Span {
	var l []api.Span
	for _, lo := range someTimes(n) {
		for _, hi := range someTimes(n) {
			if lo <= hi {
				l = append(l, of(lo, hi))
			}
		}
	}
	return l
}

// noSpans is what is no span: an end that is no time, or both; Lo above Hi.
func noSpans() []api.Span {
	l := []api.Span{of(1, 0), of(2, 1), of(10, 3), of(most, 0), of(most, most-1), of(1, -1), of(above, most), of(high, low)}
	for _, bad := range noTimes() {
		for _, t := range someTimes(3) {
			l = append(l, of(bad, t), of(t, bad))
		}
		for _, worse := range noTimes() {
			l = append(l, of(bad, worse))
		}
	}
	return l
}

// P5.1: Check, at both ends of what is a time, at Lo and at Hi; a span may be of one time, but not of none.
func TestCheck(t *testing.T) {
	for _, s := range append(someSpans(20), of(0, 0), of(most, most), of(0, most), of(7, 7)) {
		if err := Check(s); err != api.OK {
			t.Errorf("Check(%v) = %d", s, err)
		}
	}
	for _, s := range noSpans() {
		if err := Check(s); err != api.ErrSpanNone {
			t.Errorf("Check(%v) = %d, want %d", s, err, api.ErrSpanNone)
		}
	}
}

// checkSpan holds what a call answered against what it is to answer.
func checkSpan(t *testing.T, got api.Span, err api.Errno, want api.Span, wantErr api.Errno) {
	t.Helper()
	if got != want || err != wantErr {
		t.Errorf("%v, %d, want %v, %d", got, err, want, wantErr)
	}
}

// P5.1: Around, what is cut off at 0, at MaxTime, and at both.
func TestAround(t *testing.T) {
	for _, c := range []struct {
		t, by int64
		want  api.Span
	}{
		{10, 3, of(7, 13)},
		{2, 5, of(0, 7)},
		{10, 0, of(10, 10)},
		{0, 0, of(0, 0)},
		{most, 0, of(most, most)},
		{5, 4, of(1, 9)},
		{5, 5, of(0, 10)},
		{5, 6, of(0, 11)},
		{0, 1, of(0, 1)},
		{most - 5, 4, of(most-9, most-1)},
		{most - 5, 5, of(most-10, most)},
		{most - 5, 6, of(most-11, most)},
		{most, 1, of(most-1, most)},
		{0, most, of(0, most)},
		{most, most, of(0, most)},
		{1, most, of(0, most)},
		{1, most - 1, of(0, most)},
		{1, most - 2, of(0, most-1)},
		{most / 2, most / 2, of(0, most)},
		{most / 2, most/2 - 1, of(1, most-1)},
		{most / 2, most, of(0, most)},
	} {
		got, err := Around(c.t, c.by)
		checkSpan(t, got, err, c.want, api.OK)
	}
}

// P5.1: what is no time is told ahead of what is no width.
func TestAroundWrong(t *testing.T) {
	for _, bad := range noTimes() {
		for _, good := range someTimes(5) {
			got, err := Around(good, bad)
			checkSpan(t, got, err, api.Span{}, api.ErrSpanWidth)
			got, err = Around(bad, good)
			checkSpan(t, got, err, api.Span{}, api.ErrSpanNone)
		}
		for _, worse := range noTimes() {
			got, err := Around(bad, worse)
			checkSpan(t, got, err, api.Span{}, api.ErrSpanNone)
		}
	}
}

// P5.1: Widen, what is cut off at 0, at MaxTime, and at both.
func TestWiden(t *testing.T) {
	for _, c := range []struct {
		s    api.Span
		by   int64
		want api.Span
	}{
		{of(10, 20), 3, of(7, 23)},
		{of(10, 20), 0, of(10, 20)},
		{of(10, 20), 9, of(1, 29)},
		{of(10, 20), 10, of(0, 30)},
		{of(10, 20), 11, of(0, 31)},
		{of(7, 7), 2, of(5, 9)},
		{of(0, 0), 0, of(0, 0)},
		{of(0, 0), 1, of(0, 1)},
		{of(0, 0), most, of(0, most)},
		{of(most, most), 0, of(most, most)},
		{of(most, most), 1, of(most-1, most)},
		{of(most, most), most, of(0, most)},
		{of(most-20, most-10), 9, of(most-29, most-1)},
		{of(most-20, most-10), 10, of(most-30, most)},
		{of(most-20, most-10), 11, of(most-31, most)},
		{of(0, most), 0, of(0, most)},
		{of(0, most), 1, of(0, most)},
		{of(0, most), most, of(0, most)},
		{of(1, most-1), 1, of(0, most)},
		{of(1, most-1), 2, of(0, most)},
		{of(2, most-2), 1, of(1, most-1)},
	} {
		got, err := Widen(c.s, c.by)
		checkSpan(t, got, err, c.want, api.OK)
	}
}

// widened is what P5.1 says of a span and a width, end by end.
func widened(s api.Span, by int64) api.Span {
	s.Lo -= by
	if s.Lo < 0 {
		s.Lo = 0
	}
	s.Hi += by
	if s.Hi > most {
		s.Hi = most
	}
	return s
}

// P5.1: any span by any width; Around a time is its span of one time, widened.
func TestWidenAny(t *testing.T) {
	for _, by := range someTimes(20) {
		for _, s := range someSpans(20) {
			got, err := Widen(s, by)
			checkSpan(t, got, err, widened(s, by), api.OK)
		}
		for _, at := range someTimes(20) {
			got, err := Around(at, by)
			checkSpan(t, got, err, widened(of(at, at), by), api.OK)
		}
	}
}

// P5.1: what is no span is told ahead of what is no width.
func TestWidenWrong(t *testing.T) {
	for _, s := range noSpans() {
		for _, by := range append(someTimes(2), noTimes()...) {
			got, err := Widen(s, by)
			checkSpan(t, got, err, api.Span{}, api.ErrSpanNone)
		}
	}
	for _, s := range someSpans(3) {
		for _, by := range noTimes() {
			got, err := Widen(s, by)
			checkSpan(t, got, err, api.Span{}, api.ErrSpanWidth)
		}
	}
}
