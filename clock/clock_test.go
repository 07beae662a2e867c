package clock

import (
	"math"
	"testing"

	"moiety/api"
)

const (
	most  = int64(api.MaxTime)
	above = most + 1
	low   = int64(math.MinInt64)
	high  = int64(math.MaxInt64)
)

var (
	minusNought = math.Copysign(0, -1)
	least       = math.SmallestNonzeroFloat64
	belowDrift  = math.Nextafter(api.MaxDrift, 0)
	aboveDrift  = math.Nextafter(api.MaxDrift, 1)
)

// of is the times from lo to hi.
func of(lo, hi int64) api.Span { return api.Span{Lo: lo, Hi: hi} }

// noTimes is numbers that are no times, and no widths: those next to times and the ends among them.
func noTimes() []int64 {
	return []int64{-1, -2, -most, above, above + 1, 2 * most, 1 << 62, -1 << 62, low, low + 1, high - 1, high}
}

// someRates is floats that clocks may drift by, the ends among them.
func someRates() []float64 {
	return []float64{minusNought, 0, least, 0x1p-1022, 1e-300, 0x1p-50, 1e-9, 0.001, 0x1p-7, 0.0099, belowDrift, api.MaxDrift}
}

// noRates is floats that clocks may not drift by: those next to rates, the infinite ones, and no number by several bits of both signs.
func noRates() []float64 {
	l := []float64{
		aboveDrift, 0.011, 0.1, 0.5, 1, 2, 1e9, math.MaxFloat64, math.Inf(1), math.Inf(-1),
		-least, -1e-9, -0.001, -api.MaxDrift, -0.5, -1, -math.MaxFloat64,
	}
	for _, b := range []uint64{0x7ff8000000000001, 0x7ff8000000000000, 0x7ff0000000000001, 0x7fffffffffffffff} {
		l = append(l, math.Float64frombits(b), math.Float64frombits(b|1<<63))
	}
	return l
}

// made is a new clock.
func made(t *testing.T, rate float64) *Clock {
	t.Helper()
	c, err := New(rate)
	if c == nil || err != api.OK {
		t.Fatalf("New(%v) = %v, %d", rate, c, err)
	}
	return c
}

// running is a new clock that was set.
func running(t *testing.T, rate float64, reading, time, width int64) *Clock {
	t.Helper()
	c := made(t, rate)
	set(t, c, reading, time, width, api.OK)
	return c
}

// set sets a clock, and holds the answer against what it is to be.
func set(t *testing.T, c *Clock, reading, time, width int64, want api.Errno) {
	t.Helper()
	if err := c.Set(reading, time, width); err != want {
		t.Errorf("Set(%d, %d, %d) = %d, want %d", reading, time, width, err, want)
	}
}

// now asks a clock, and holds the answer against what it is to be.
func now(t *testing.T, c *Clock, reading int64, want api.Span, wantErr api.Errno) {
	t.Helper()
	if got, err := c.Now(reading); got != want || err != wantErr {
		t.Errorf("Now(%d) = %v, %d, want %v, %d", reading, got, err, want, wantErr)
	}
}

// past asks a clock whether a time is past, and holds the answer against what it is to be.
func past(t *testing.T, c *Clock, time, reading int64, want bool, wantErr api.Errno) {
	t.Helper()
	if got, err := c.Past(time, reading); got != want || err != wantErr {
		t.Errorf("Past(%d, %d) = %v, %d, want %v, %d", time, reading, got, err, want, wantErr)
	}
}

// P6.1, P6.2, P6.3: the chapter's examples.
func TestExamples(t *testing.T) {
	c := made(t, 0.01)
	now(t, c, 5, api.Span{}, api.ErrClockNone)
	set(t, c, 10, 1000, 3, api.OK)
	now(t, c, 10, of(997, 1003), api.OK)
	now(t, c, 110, of(1095, 1105), api.OK)
	past(t, c, 1000, 110, true, api.OK)
	now(t, c, 109, api.Span{}, api.ErrClockBack)
}

// P6.1: New, by rates from the nought with a minus to MaxDrift, and by floats that are none; a new clock has no basis.
func TestNew(t *testing.T) {
	for _, rate := range someRates() {
		c := made(t, rate)
		for _, h := range []int64{0, 7, most} {
			now(t, c, h, api.Span{}, api.ErrClockNone)
			past(t, c, -1, h, false, api.ErrClockNone)
		}
	}
	for _, rate := range noRates() {
		if c, err := New(rate); c != nil || err != api.ErrClockRate {
			t.Errorf("New(%v) = %v, %d", rate, c, err)
		}
	}
}

// P6.1: clocks know nothing of each other.
func TestClocksStandAlone(t *testing.T) {
	a, b := running(t, 0.01, 50, 1000, 3), made(t, 0)
	now(t, b, 0, api.Span{}, api.ErrClockNone)
	set(t, b, 0, 7, 0, api.OK)
	now(t, b, 100, of(107, 107), api.OK)
	now(t, a, 50, of(997, 1003), api.OK)
}

// P6.1: Set, at both ends of readings, times and widths.
func TestSet(t *testing.T) {
	ends := []int64{0, 1, most - 1, most}
	for _, h := range ends {
		for _, time := range ends {
			for _, e := range ends {
				c := running(t, 0.01, h, time, e)
				now(t, c, h, of(max(0, time-e), min(most, time+e)), api.OK)
			}
		}
	}
}

// P6.1: what is no time, or no width, is told at each place, by clocks that were set, and by others; ahead of a reading that is too low.
func TestSetWrong(t *testing.T) {
	for _, c := range []*Clock{made(t, 0.01), running(t, 0.01, 10, 1000, 3), running(t, 0, most, 0, most)} {
		for _, bad := range noTimes() {
			for _, good := range []int64{0, 5, most} {
				set(t, c, bad, good, good, api.ErrClockTime)
				set(t, c, good, bad, good, api.ErrClockTime)
				set(t, c, good, good, bad, api.ErrClockTime)
				set(t, c, bad, bad, good, api.ErrClockTime)
				set(t, c, good, bad, bad, api.ErrClockTime)
			}
			set(t, c, bad, bad, bad, api.ErrClockTime)
		}
	}
}

// P6.1: a reading may be the last one's own, but not below it: whether the last one was taken by Set, by Now or by Past.
func TestSetBack(t *testing.T) {
	for _, take := range []func(c *Clock){
		func(c *Clock) { set(t, c, 70, 500, 1, api.OK) },
		func(c *Clock) { now(t, c, 70, of(1058, 1062), api.OK) },
		func(c *Clock) { past(t, c, 1057, 70, true, api.OK) },
	} {
		c := running(t, 0.001, 10, 1000, 1)
		take(c)
		for _, h := range []int64{0, 9, 10, 69} {
			set(t, c, h, 2000, 5, api.ErrClockBack)
		}
		set(t, c, 70, 2000, 5, api.OK)
		now(t, c, 70, of(1995, 2005), api.OK)
	}
}

// P6.1: the first reading may be any; the basis is the last one that was taken, of all its parts.
func TestSetAgain(t *testing.T) {
	c := running(t, 0.01, 0, 5000, 9)
	set(t, c, 0, 6000, 2, api.OK)
	now(t, c, 0, of(5998, 6002), api.OK)
	set(t, c, 300, 7000, 0, api.OK) // what passed, and how wrong it may be, begins anew
	now(t, c, 300, of(7000, 7000), api.OK)
	now(t, c, 400, of(7098, 7102), api.OK)
	set(t, c, 400, 7100, 1, api.OK)
	now(t, c, 400, of(7099, 7101), api.OK)
	now(t, c, 499, of(7197, 7201), api.OK)
}

// P6.2: what a clock tells so much later: by how much it is wider, and what is cut off at 0 and at MaxTime.
func TestNow(t *testing.T) {
	for _, c := range []struct {
		rate           float64
		h, time, width int64 // the basis
		at             int64
		want           api.Span
	}{
		{0.01, 10, 1000, 3, 10, of(997, 1003)},
		{0.01, 10, 1000, 3, 11, of(997, 1005)},
		{0.01, 10, 1000, 3, 109, of(1095, 1103)},
		{0.01, 10, 1000, 3, 110, of(1095, 1105)}, // 0.01 is a little above a hundredth
		{0.01, 10, 1000, 3, 111, of(1096, 1106)},
		{belowDrift, 10, 1000, 3, 110, of(1096, 1104)},
		{0, 10, 1000, 3, 110, of(1097, 1103)},
		{minusNought, 10, 1000, 3, 110, of(1097, 1103)},
		{least, 10, 1000, 3, 110, of(1096, 1104)},
		{least, 10, 1000, 3, 10, of(997, 1003)},
		{0x1p-7, 0, 0, 0, 128, of(127, 129)},
		{0x1p-7, 0, 0, 0, 129, of(127, 131)},
		{0, 10, 1000, 0, 110, of(1100, 1100)},
		{0, 0, 0, 0, 0, of(0, 0)},
		{0, 0, 0, 5, 0, of(0, 5)},
		{0, 0, 0, 5, 4, of(0, 9)}, // the sum's own width, not what was cut off of the basis'
		{0, 0, 0, 5, 5, of(0, 10)},
		{0, 0, 0, 5, 6, of(1, 11)},
		{0, 0, 0, 0, most, of(most, most)},
		{0x1p-50, 0, 0, 0, most, of(most-1, most)},
		{0, most, 0, 0, most, of(0, 0)},
		{0, most - 7, 0, 0, most, of(7, 7)},
		{0, 0, most, 0, 0, of(most, most)},
		{0, 0, most, most, 0, of(0, most)},
		{0, 0, most - 9, 4, 5, of(most-8, most)},
		{0, 0, most - 9, 4, 4, of(most-9, most-1)},
		{0.01, 0, 5, most, 5, of(0, most)},
		// what is cut off at one end takes nothing from the other one
		{0.01, 0, 0, 1000, 1000, of(0, 2011)},
		{0.01, 0, 0, 1200, 1000, of(0, 2211)},
		{0.01, 0, 0, most, 1000, of(0, most)},
		{0.01, 0, most - 1000, 500, 1000, of(most-511, most)},
	} {
		now(t, running(t, c.rate, c.h, c.time, c.width), c.at, c.want, api.OK)
	}
}

// P6.2: each wrong reading with its error, in the chapter's order.
func TestNowWrong(t *testing.T) {
	fresh, c := made(t, 0.01), running(t, 0.01, 100, most-1000, 3)
	full := running(t, 0, 100, most, 0)
	now(t, full, 101, api.Span{}, api.ErrClockFull)
	for _, bad := range noTimes() { // ErrClockTime: ahead of all else
		now(t, fresh, bad, api.Span{}, api.ErrClockTime)
		now(t, c, bad, api.Span{}, api.ErrClockTime)
		now(t, full, bad, api.Span{}, api.ErrClockTime)
	}
	for _, h := range []int64{0, 1, 99} {
		now(t, fresh, h, api.Span{}, api.ErrClockNone)
		now(t, c, h, api.Span{}, api.ErrClockBack)
		now(t, full, h, api.Span{}, api.ErrClockBack)
	}
	for _, h := range []int64{1101, 1102, most - 1, most} {
		now(t, fresh, h, api.Span{}, api.ErrClockNone)
		now(t, c, h, api.Span{}, api.ErrClockFull)
		now(t, full, h, api.Span{}, api.ErrClockFull)
	}
}

// P6.2: the last reading may be asked again, and tells the same; what is below it may not.
func TestNowBack(t *testing.T) {
	c := running(t, 0.01, 10, 1000, 3)
	for _, h := range []int64{10, 110, 111, 5000} {
		want, err := c.Now(h)
		if err != api.OK {
			t.Fatal(h, err)
		}
		now(t, c, h, want, api.OK)
		now(t, c, h-1, api.Span{}, api.ErrClockBack)
		now(t, c, 0, api.Span{}, api.ErrClockBack)
		past(t, c, 0, h-1, false, api.ErrClockBack)
		now(t, c, h, want, api.OK)
	}
}

// P6.2: the basis' time and what passed may come to MaxTime, but not to one more.
func TestNowFull(t *testing.T) {
	for _, c := range []struct{ h, time, at int64 }{
		{0, most - 7, 7},
		{5, most - 7, 12},
		{0, most, 0},
		{most - 7, most - 7, most},
		{0, 0, most},
		{most / 2, most / 2, most},
		{most, most, most},
		{1, 1, most},
	} {
		for _, rate := range []float64{0, least, 0.01} {
			k := running(t, rate, c.h, c.time, 2)
			got, err := k.Now(c.at)
			if got.Hi != most || err != api.OK {
				t.Error(c, got, err)
			}
			if c.at < most {
				now(t, k, c.at+1, api.Span{}, api.ErrClockFull)
				now(t, k, most, api.Span{}, api.ErrClockFull)
				past(t, k, -1, c.at+1, false, api.ErrClockFull)
			}
			now(t, k, c.at, got, api.OK)
		}
	}
}

// P6.2: what passed goes by readings since the basis, not since the last reading, however large the numbers.
func TestNowFullOfGreatBases(t *testing.T) {
	now(t, running(t, 0, 0, most, 0), most, api.Span{}, api.ErrClockFull)
	now(t, running(t, 0, 0, 1, 0), most, api.Span{}, api.ErrClockFull)
	c := running(t, 0, 0, most-10, 0)
	now(t, c, 6, of(most-4, most-4), api.OK)
	now(t, c, 11, api.Span{}, api.ErrClockFull)
	now(t, c, 10, of(most, most), api.OK)
	set(t, c, 10, 0, 0, api.OK) // set again it has time ahead of it
	now(t, c, 11, of(most, most), api.OK)
}

// P6.2: the floor: no Lo is below an earlier one, and no Hi below its own Lo, also where the clock was set to an earlier time.
func TestFloor(t *testing.T) {
	c := running(t, 0, 0, 1000, 10)
	now(t, c, 0, of(990, 1010), api.OK)
	set(t, c, 0, 1000, 20, api.OK) // the floor is above the span's Lo
	now(t, c, 0, of(990, 1020), api.OK)
	now(t, c, 9, of(990, 1029), api.OK)
	now(t, c, 10, of(990, 1030), api.OK)
	now(t, c, 11, of(991, 1031), api.OK)
	set(t, c, 11, 500, 5, api.OK) // and above its Hi
	now(t, c, 11, of(991, 991), api.OK)
	past(t, c, 990, 11, true, api.OK)
	past(t, c, 991, 11, false, api.OK)
	now(t, c, 496, of(991, 991), api.OK)
	now(t, c, 497, of(991, 991), api.OK)
	now(t, c, 498, of(991, 992), api.OK)
	now(t, c, 506, of(991, 1000), api.OK)
	now(t, c, 507, of(991, 1001), api.OK)
	now(t, c, 508, of(992, 1002), api.OK)
}

// P6.2: the floor is above Hi by one, at it, and below it by one.
func TestFloorAboutHi(t *testing.T) {
	for time, want := range map[int64]api.Span{984: of(990, 990), 985: of(990, 990), 986: of(990, 991), 994: of(990, 999), 995: of(990, 1000), 996: of(991, 1001)} {
		c := running(t, 0.01, 0, 1000, 10)
		now(t, c, 0, of(990, 1010), api.OK)
		set(t, c, 0, time, 5, api.OK)
		now(t, c, 0, want, api.OK)
	}
}

// P6.2: what drifts more as time passes may have a Lo that stays, but none that falls.
func TestFloorOfOneBasis(t *testing.T) {
	c := running(t, 0.01, 0, 1000, 0)
	lo := int64(0)
	for h := range int64(2000) {
		s, err := c.Now(h)
		if err != api.OK || s.Lo < lo || s.Hi < s.Lo {
			t.Fatal(h, s, err, lo)
		}
		lo = s.Lo
	}
	// nothing passed: 1000; one passed: 1001, wider by 1
	c = running(t, 0.01, 0, 1000, 0)
	now(t, c, 0, of(1000, 1000), api.OK)
	now(t, c, 1, of(1000, 1002), api.OK)
	now(t, c, 100, of(1098, 1102), api.OK)
}

// P6.2: only what was told lifts the floor: not what a basis would have told.
func TestFloorIsTold(t *testing.T) {
	c := running(t, 0, 0, 1000, 10)
	set(t, c, 50, 500, 10, api.OK)
	now(t, c, 50, of(490, 510), api.OK)
	set(t, c, 60, 100, 0, api.OK)
	now(t, c, 60, of(490, 490), api.OK)
	set(t, c, 60, 0, 0, api.OK)
	now(t, c, 60, of(490, 490), api.OK)
	set(t, c, 60, most, 0, api.OK)
	now(t, c, 60, of(most, most), api.OK)
	set(t, c, 60, 0, 0, api.OK)
	now(t, c, most, of(most, most), api.OK)
}

// P6.3: Past, at Lo and one below it, and of numbers that are no times.
func TestPast(t *testing.T) {
	c := running(t, 0.01, 10, 1000, 3)
	for _, k := range []struct {
		time, h int64
		want    bool
	}{
		{996, 10, true}, {997, 10, false}, {1000, 10, false}, {1003, 10, false}, {1004, 10, false},
		{-1, 10, true}, {low, 10, true}, {0, 10, true}, {above, 10, false}, {high, 10, false}, {most, 10, false},
		{1000, 110, true}, {1094, 110, true}, {1095, 110, false}, {1096, 110, false},
	} {
		past(t, c, k.time, k.h, k.want, api.OK)
	}
	nought := running(t, 0, 0, 0, 0)
	past(t, nought, 0, 0, false, api.OK)
	past(t, nought, -1, 0, true, api.OK)
	past(t, nought, low, 0, true, api.OK)
	past(t, nought, 0, 1, true, api.OK)
	past(t, nought, most-1, most, true, api.OK)
	past(t, nought, most, most, false, api.OK)
}

// P6.3: Past's errors are Now's, in the same order, and nothing is past then, whatever is asked for.
func TestPastWrong(t *testing.T) {
	fresh, c := made(t, 0.01), running(t, 0, 100, most-5, 0)
	for _, time := range []int64{low, -1, 0, 5, most, above, high} {
		for _, bad := range noTimes() {
			past(t, fresh, time, bad, false, api.ErrClockTime)
			past(t, c, time, bad, false, api.ErrClockTime)
		}
		past(t, fresh, time, 0, false, api.ErrClockNone)
		past(t, fresh, time, most, false, api.ErrClockNone)
		past(t, c, time, 99, false, api.ErrClockBack)
		past(t, c, time, 0, false, api.ErrClockBack)
		past(t, c, time, 106, false, api.ErrClockFull)
		past(t, c, time, most, false, api.ErrClockFull)
	}
}

// P6.3: Past does all that Now does: it takes the reading, and lifts the floor, whether the time is past or not.
func TestPastDoesWhatNowDoes(t *testing.T) {
	for _, time := range []int64{low, 5, 2000, high} {
		c := running(t, 0, 0, 1000, 0)
		past(t, c, time, 70, time < 1070, api.OK)
		now(t, c, 69, api.Span{}, api.ErrClockBack)
		set(t, c, 69, 0, 0, api.ErrClockBack)
		set(t, c, 70, 0, 0, api.OK)
		now(t, c, 70, of(1070, 1070), api.OK)
		past(t, c, 1069, 70, true, api.OK)
		past(t, c, 1070, 70, false, api.OK)
	}
}
