package stamp

import (
	"math"
	"testing"

	"moiety/api"
)

const (
	most = int64(api.MaxTime)
	low  = int64(math.MinInt64)
	high = int64(math.MaxInt64)
)

// of is the times from lo to hi, whether they are a span or not.
func of(lo, hi int64) api.Span { return api.Span{Lo: lo, Hi: hi} }

// someSpans is spans of one time and of many, at both ends of all times and between.
func someSpans() []api.Span {
	return []api.Span{
		of(0, 0), of(0, 1), of(1, 1), of(0, 7), of(5, 9), of(9, 9), of(1000, 1003), of(0, most/2), of(most/2, most/2),
		of(0, most-2), of(most-2, most-2), of(0, most-1), of(most-9, most-1), of(most-1, most-1),
		of(0, most), of(1, most), of(most-1, most), of(most, most),
	}
}

// noTimes is numbers that are no times: those next to times and the ends among them.
func noTimes() []int64 {
	return []int64{-1, -2, -1000, -most, most + 1, most + 2, 2 * most, 1 << 62, -1 << 62, low, low + 1, high - 1, high}
}

// noStamps is numbers that are no stamps: 0 is a time, but no stamp.
func noStamps() []int64 { return append(noTimes(), 0) }

// noSpans is what is no span: what is turned round, and what has an end below 0, or above MaxTime, or both.
func noSpans() []api.Span {
	l := []api.Span{of(1, 0), of(2, 1), of(9, 5), of(most, 0), of(most, most-1), of(1, -1), of(most+1, most), of(high, low)}
	for _, bad := range noTimes() {
		l = append(l, of(bad, 0), of(bad, 9), of(bad, most), of(0, bad), of(5, bad), of(most, bad), of(bad, bad))
	}
	return l
}

// made is a new source.
func made(t *testing.T) *Source {
	t.Helper()
	s := New()
	if s == nil {
		t.Fatal("no source")
	}
	return s
}

// kept is a new source that is told of a stamp that stands already; of 0: of none.
func kept(t *testing.T, at int64) *Source {
	t.Helper()
	s := made(t)
	if at != 0 {
		keep(t, s, at, api.OK)
	}
	last(t, s, at)
	return s
}

// last holds a source's last stamp against what it is to be.
func last(t *testing.T, s *Source, want int64) {
	t.Helper()
	if got := s.Last(); got != want {
		t.Errorf("Last() = %d, want %d", got, want)
	}
}

// next asks for a stamp, and holds it, and the last stamp behind it, against what they are to be.
func next(t *testing.T, s *Source, want int64, now api.Span, above ...int64) {
	t.Helper()
	if got, err := s.Next(now, above...); got != want || err != api.OK {
		t.Errorf("Next(%v, %v) = %d, %d, want %d", now, above, got, err, want)
	}
	last(t, s, want)
}

// none asks for a stamp that isn't given: the last stamp is as it was.
func none(t *testing.T, s *Source, want api.Errno, now api.Span, above ...int64) {
	t.Helper()
	was := s.Last()
	if got, err := s.Next(now, above...); got != 0 || err != want {
		t.Errorf("Next(%v, %v) = %d, %d, want %d", now, above, got, err, want)
	}
	last(t, s, was)
}

// keep tells a source of a stamp, and holds the answer, and the last stamp behind it, against what they are to be.
func keep(t *testing.T, s *Source, at int64, want api.Errno) {
	t.Helper()
	then := s.Last()
	if want == api.OK {
		then = max(then, at)
	}
	if err := s.Keep(at); err != want {
		t.Errorf("Keep(%d) = %d, want %d", at, err, want)
	}
	last(t, s, then)
}

// wait holds what Wait answers against what it is to answer.
func wait(t *testing.T, at int64, now api.Span, want int64, wantErr api.Errno) {
	t.Helper()
	if got, err := Wait(at, now); got != want || err != wantErr {
		t.Errorf("Wait(%d, %v) = %d, %d, want %d, %d", at, now, got, err, want, wantErr)
	}
}

// P10.1, P10.2: the chapter's examples.
func TestExamples(t *testing.T) {
	s := made(t)
	next(t, s, 10, of(5, 9))
	next(t, s, 11, of(5, 9))
	next(t, s, 21, of(1, 2), 20, 3)
	keep(t, s, 30, api.OK)
	keep(t, s, 25, api.OK)
	next(t, s, 31, of(1, 2))
	wait(t, 10, of(5, 9), 6, api.OK)
	wait(t, 10, of(11, 12), 0, api.OK)
	wait(t, 10, of(10, 10), 1, api.OK)
}

// P10.1: a new source has no last stamp, and gives the first one above what it is told.
func TestNew(t *testing.T) {
	last(t, made(t), 0)
	next(t, made(t), 1, of(0, 0))
	next(t, made(t), 1, of(0, 0), 0)
	next(t, made(t), 1, of(0, 0), -1, low)
	next(t, made(t), 2, of(0, 0), 1)
	next(t, made(t), 2, of(0, 1))
	next(t, made(t), 2, of(1, 1))
}

// P10.1: Next is just above a span's Hi, wherever its Lo is, and tells that none is left, if that is MaxTime.
func TestNextAboveSpan(t *testing.T) {
	for _, now := range someSpans() {
		if now.Hi == most {
			none(t, made(t), api.ErrStampFull, now)
			continue
		}
		next(t, made(t), now.Hi+1, now)
	}
}

// P10.1: Next is above the last stamp, whether that was given or kept, and whatever the span: it rises by one as long as nothing else does.
func TestNextAboveLast(t *testing.T) {
	for _, now := range []api.Span{of(0, 0), of(3, 999), of(3, 1000), of(1000, 1000)} {
		s := kept(t, 1000)
		for k := range int64(50) {
			next(t, s, 1001+k, now)
		}
		next(t, s, 1052, of(0, 1051)) // as great as the stamp would have been
		next(t, s, 1053, of(0, 1052)) // as great as the last stamp
		next(t, s, 1055, of(1054, 1054))
		next(t, s, 1056, of(0, 1054))
	}
	next(t, kept(t, 1), 2, of(0, 0))
	next(t, kept(t, 2), 3, of(0, 1))
}

// P10.1: what stamps are raised by lasts: a stamp above a number is above it, and so are all behind it, whatever they are told.
func TestNextStaysAbove(t *testing.T) {
	s := made(t)
	next(t, s, 501, of(0, 3), 500)
	next(t, s, 502, of(0, 3))
	next(t, s, 503, of(0, 3), 4, 5)
	next(t, s, 701, of(0, 700), 4)
	next(t, s, 702, of(0, 3), 4)
}

// P10.1: Next is above each number that it is told, of none, of one and of many, alike ones and such below 0 among them.
func TestNextAboveNumbers(t *testing.T) {
	for _, c := range []struct {
		above []int64
		want  int64
	}{
		{nil, 101},
		{[]int64{}, 101},
		{[]int64{0}, 101},
		{[]int64{-1}, 101},
		{[]int64{low}, 101},
		{[]int64{low, low + 1, -1 << 62, -most, -1}, 101},
		{[]int64{99}, 101},
		{[]int64{100}, 101},
		{[]int64{101}, 102},
		{[]int64{100, 100}, 101},
		{[]int64{101, 101}, 102},
		{[]int64{101, 101, 101, 100, 99}, 102},
		{[]int64{101, 102, 103}, 104},
		{[]int64{103, 102, 101}, 104},
		{[]int64{101, 103, 102}, 104},
		{[]int64{low, 103, -5, 103, 0}, 104},
		{[]int64{1 << 40, 7}, 1<<40 + 1},
		{[]int64{most - 2}, most - 1},
		{[]int64{most - 2, most - 2, low}, most - 1},
		{[]int64{most - 1}, most},
		{[]int64{3, most - 1, most - 2}, most},
	} {
		next(t, made(t), c.want, of(50, 100), c.above...)
		next(t, kept(t, 100), c.want, of(0, 0), c.above...)
	}
}

// P10.1: none is left above MaxTime and above what is no time any more, whichever number that is.
func TestNextFullByNumbers(t *testing.T) {
	for _, full := range []int64{most, most + 1, most + 2, 2 * most, 1 << 62, high - 1, high} {
		for _, above := range [][]int64{
			{full}, {full, full}, {full, 3, 4}, {3, full, 4}, {3, 4, full}, {low, full, -1}, {most - 1, full}, {full, most - 1}, {high, full}, {full, high},
		} {
			s := made(t)
			none(t, s, api.ErrStampFull, of(0, 0), above...)
			none(t, s, api.ErrStampFull, of(0, most), above...)
			next(t, s, 1, of(0, 0)) // what it was told isn't kept
			next(t, s, 2, of(0, 0), 1)
		}
	}
}

// orders is all orders of some numbers.
func orders(l []int64) [][]int64 {
	if len(l) == 0 {
		return [][]int64{nil}
	}
	var all [][]int64
	for k, first := range l {
		rest := append(append([]int64(nil), l[:k]...), l[k+1:]...)
		for _, o := range orders(rest) {
			all = append(all, append([]int64{first}, o...))
		}
	}
	return all
}

// P10.1: the greatest of all counts, whether it is the last stamp, the span's Hi, the first, a middle or the last one of the numbers; also where others are just below it, or as great.
func TestNextAboveGreatest(t *testing.T) {
	for _, l := range [][]int64{
		{10, 20, 30, 40, 50}, {46, 47, 48, 49, 50}, {50, 50, 50, 50, 50}, {1, 2, 3, 50, 50}, {1, 49, 49, 49, 50}, {most - 5, most - 4, most - 3, most - 2, most - 1},
	} {
		for _, o := range orders(l) {
			next(t, kept(t, o[0]), l[4]+1, of(0, o[1]), o[2], o[3], o[4])
			next(t, kept(t, o[0]), l[4]+1, of(o[1], o[1]), o[2], low, o[3], 0, o[4])
		}
	}
}

// P10.1: and of what is a time, but has no stamp above it, likewise.
func TestNextFullByGreatest(t *testing.T) {
	for _, o := range orders([]int64{1, 50, 50, most - 1, most}) {
		none(t, kept(t, o[0]), api.ErrStampFull, of(0, o[1]), o[2], o[3], o[4])
	}
}

// P10.1: many numbers, of which the greatest stands at any place.
func TestNextAboveMany(t *testing.T) {
	for _, n := range []int{1, 2, 3, 100, 10000} {
		l := make([]int64, n)
		for k := range l {
			l[k] = 7 + int64(k%5)
		}
		for _, at := range []int{0, n / 3, n / 2, n - 1} {
			was := l[at]
			l[at] = 5000
			next(t, made(t), 5001, of(2, 12), l...)
			l[at] = high
			none(t, made(t), api.ErrStampFull, of(2, 12), l...)
			l[at] = was
		}
	}
}

// P10.1: the last stamps of all: MaxTime-1 and MaxTime are given, and none above; a source that is full stays so, and stays as it is.
func TestNextUpToLast(t *testing.T) {
	s := kept(t, most-2)
	next(t, s, most-1, of(0, 0))
	next(t, s, most, of(0, 0))
	for range 3 {
		for _, now := range someSpans() {
			none(t, s, api.ErrStampFull, now)
			none(t, s, api.ErrStampFull, now, 1, low)
			none(t, s, api.ErrStampFull, now, high)
		}
		keep(t, s, most, api.OK)
		keep(t, s, 1, api.OK)
		keep(t, s, most+1, api.ErrStampSpan)
	}
	last(t, s, most)
	none(t, kept(t, most), api.ErrStampFull, of(0, 0))
}

// P10.1: none is given by what is no span, whether or not one would be left: and that is told first.
func TestNextNoSpan(t *testing.T) {
	for _, now := range noSpans() {
		for _, at := range []int64{0, 1, 20, most - 1, most} {
			s := kept(t, at)
			none(t, s, api.ErrStampSpan, now)
			none(t, s, api.ErrStampSpan, now, 500)
			none(t, s, api.ErrStampSpan, now, 3, most, high)
			none(t, s, api.ErrStampSpan, now, low)
			if at < most {
				next(t, s, at+1, of(0, 0))
			}
		}
	}
}

// P10.1: Keep, at both ends of stamps, and of numbers that are none.
func TestKeep(t *testing.T) {
	for _, at := range []int64{1, 2, 3, 1000, 1 << 40, most - 1, most} {
		keep(t, made(t), at, api.OK)
	}
	for _, at := range noStamps() {
		for _, was := range []int64{0, 1, 20, most - 1, most} {
			keep(t, kept(t, was), at, api.ErrStampSpan)
		}
	}
}

// P10.1: Keep of what is just below the last stamp, of it itself, and just above it; a stamp that was given counts as one that was kept does.
func TestKeepAboutLast(t *testing.T) {
	for _, at := range []int64{2, 3, 1000, most - 1} {
		for _, s := range []*Source{kept(t, at), given(t, at)} {
			keep(t, s, at-1, api.OK)
			last(t, s, at)
			keep(t, s, 1, api.OK)
			last(t, s, at)
			keep(t, s, at, api.OK)
			last(t, s, at)
			keep(t, s, at+1, api.OK)
			last(t, s, at+1)
			keep(t, s, at, api.OK)
			last(t, s, at+1)
		}
	}
	keep(t, kept(t, most), most-1, api.OK)
}

// given is a new source that gave a stamp.
func given(t *testing.T, at int64) *Source {
	t.Helper()
	s := made(t)
	next(t, s, at, of(0, at-1))
	return s
}

// P10.1: Last asks, and changes nothing.
func TestLast(t *testing.T) {
	s := made(t)
	for _, want := range []int64{1, 2, 3} {
		for range 3 {
			last(t, s, want-1)
		}
		next(t, s, want, of(0, 0))
	}
	keep(t, s, 9, api.OK)
	for range 3 {
		last(t, s, 9)
	}
	next(t, s, 10, of(0, 0))
}

// P10.1: sources know nothing of each other.
func TestSourcesStandAlone(t *testing.T) {
	a, b := made(t), made(t)
	next(t, a, 101, of(0, 100))
	last(t, b, 0)
	next(t, b, 1, of(0, 0))
	keep(t, b, 50, api.OK)
	next(t, a, 102, of(0, 0))
	next(t, b, 51, of(0, 0))
	keep(t, a, most, api.OK)
	none(t, a, api.ErrStampFull, of(0, 0))
	next(t, b, 52, of(0, 0))
	last(t, a, most)
	last(t, made(t), 0)
}

// P10.2: Wait of stamps just below, at and just above a span's Lo, and about its Hi, which doesn't count.
func TestWait(t *testing.T) {
	for _, now := range []api.Span{of(3, 3), of(5, 9), of(5, most), of(1000, 1000), of(1000, 4000), of(most/2, most/2+5), of(most-9, most-3), of(most-2, most-2)} {
		for _, at := range []int64{1, now.Lo - 2, now.Lo - 1} {
			wait(t, at, now, 0, api.OK)
		}
		wait(t, now.Lo, now, 1, api.OK)
		wait(t, now.Lo+1, now, 2, api.OK)
		wait(t, now.Lo+2, now, 3, api.OK)
		wait(t, now.Hi, now, now.Hi-now.Lo+1, api.OK)
		if now.Hi < most {
			wait(t, now.Hi+1, now, now.Hi-now.Lo+2, api.OK)
		}
		wait(t, most, now, most-now.Lo+1, api.OK)
	}
}

// P10.2: Wait at both ends of stamps and of times; what is to be added may be more than a time.
func TestWaitAtEnds(t *testing.T) {
	for _, hi := range []int64{0, 1, 2, 1000, most - 1, most} {
		wait(t, 1, of(0, hi), 2, api.OK)
		wait(t, 2, of(0, hi), 3, api.OK)
		wait(t, most-1, of(0, hi), most, api.OK)
		wait(t, most, of(0, hi), most+1, api.OK)
	}
	wait(t, 1, of(1, 1), 1, api.OK)
	wait(t, 1, of(2, 2), 0, api.OK)
	wait(t, 1, of(1, most), 1, api.OK)
	wait(t, most, of(1, 1), most, api.OK)
	for _, lo := range []int64{most - 1, most} {
		wait(t, 1, of(lo, most), 0, api.OK)
		wait(t, most-1, of(lo, most), most-lo, api.OK)
		wait(t, most, of(lo, most), most-lo+1, api.OK)
	}
}

// P10.2: what is no stamp, and what is no span, are told, each alone and both.
func TestWaitRefused(t *testing.T) {
	for _, at := range noStamps() {
		for _, now := range append(someSpans(), noSpans()...) {
			wait(t, at, now, 0, api.ErrStampSpan)
		}
	}
	for _, now := range noSpans() {
		for _, at := range []int64{1, 2, 5, 10, 1000, most - 1, most} {
			wait(t, at, now, 0, api.ErrStampSpan)
		}
	}
}
