package stamp

import (
	"slices"
	"testing"

	"moiety/api"
)

// roomy is numbers with so much spare room behind them, in which something stands.
func roomy(l []int64, room int) []int64 {
	all := append(slices.Clone(l), make([]int64, room)...)
	for k := range room {
		all[len(l)+k] = int64(1000 + k)
	}
	return all[:len(l)]
}

// P10.1: the numbers that are handed in stay as they were, and what stands in the spare room behind them; which neither counts.
func TestNumbersStay(t *testing.T) {
	for _, l := range [][]int64{nil, {7}, {7, 3, 5}, {3, 3, 9, 9}, {low, 50, -1, 0}, {40, 30, 20, 10}, {most - 1}, {most, 3}, {5, high, 5}} {
		for _, room := range []int{0, 1, 2, 9} {
			for _, now := range []api.Span{of(0, 0), of(5, 60), of(9, 5), of(0, most)} {
				handed := roomy(l, room)
				was := slices.Clone(handed[:cap(handed)])
				p := &plain{}
				want, wantErr := p.Next(now, l...)
				if got, err := made(t).Next(now, handed...); got != want || err != wantErr {
					t.Errorf("Next(%v, %v) = %d, %d, want %d, %d", now, l, got, err, want, wantErr)
				}
				if !slices.Equal(handed[:cap(handed)], was) {
					t.Errorf("Next(%v, %v): handed in, %v, is %v", now, l, was, handed[:cap(handed)])
				}
			}
		}
	}
}

// P10.1: the numbers that are handed in aren't kept: what they become later a source doesn't see.
func TestNumbersAreNotKept(t *testing.T) {
	s := made(t)
	l := roomy([]int64{20, 30, 10}, 4)
	next(t, s, 31, of(1, 2), l...)
	for k := range l[:cap(l)] {
		l[:cap(l)][k] = most
	}
	last(t, s, 31)
	next(t, s, 32, of(1, 2))
	none(t, s, api.ErrStampFull, of(1, 2), l...)
	l[0], l[1], l[2] = 1, 2, 3
	next(t, s, 33, of(1, 2), l...)
}

// P10.1: no numbers and an empty list of them are the same.
func TestNoNumbers(t *testing.T) {
	for _, l := range [][]int64{nil, {}, roomy(nil, 3)} {
		next(t, made(t), 10, of(5, 9), l...)
		none(t, made(t), api.ErrStampFull, of(5, most), l...)
		none(t, made(t), api.ErrStampSpan, of(9, 5), l...)
	}
}
