package span

import (
	"slices"
	"testing"

	"moiety/api"
)

// places is times next to both ends of all times, and numbers beyond them.
func places() []int64 {
	var l []int64
	for k := int64(-2); k <= 8; k++ {
		l = append(l, k, most-k)
	}
	return l
}

// nearSpans is all spans between two of places.
func nearSpans() []api.Span {
	var l []api.Span
	for _, lo := range places() {
		for _, hi := range places() {
			if lo >= 0 && lo <= hi && hi <= most {
				l = append(l, of(lo, hi))
			}
		}
	}
	return l
}

// P5.3: Has, at both ends of a span and next to them.
func TestHas(t *testing.T) {
	for _, c := range []struct {
		s    api.Span
		t    int64
		want bool
	}{
		{of(3, 7), 2, false},
		{of(3, 7), 3, true},
		{of(3, 7), 5, true},
		{of(3, 7), 7, true},
		{of(3, 7), 8, false},
		{of(5, 5), 4, false},
		{of(5, 5), 5, true},
		{of(5, 5), 6, false},
		{of(0, 0), 0, true},
		{of(0, 0), 1, false},
		{of(0, most), 0, true},
		{of(0, most), most / 2, true},
		{of(0, most), most, true},
		{of(0, 9), most, false},
		{of(most, most), most, true},
		{of(most, most), most - 1, false},
		{of(most, most), 0, false},
	} {
		if got := Has(c.s, c.t); got != c.want {
			t.Errorf("Has(%v, %d) = %v", c.s, c.t, got)
		}
	}
}

// P5.3: what is no span has no time, what lies between its ends neither; what is no time is in no span.
func TestHasNot(t *testing.T) {
	for _, s := range noSpans() {
		for _, at := range append(someTimes(3), noTimes()...) {
			if Has(s, at) {
				t.Errorf("Has(%v, %d)", s, at)
			}
		}
		for _, at := range []int64{s.Lo, s.Hi, s.Lo/2 + s.Hi/2} {
			if Has(s, at) {
				t.Errorf("Has(%v, %d)", s, at)
			}
		}
	}
	for _, s := range someSpans(3) {
		for _, at := range noTimes() {
			if Has(s, at) {
				t.Errorf("Has(%v, %d)", s, at)
			}
		}
	}
}

type two struct {
	a, b   api.Span
	before bool
	meet   api.Span
	met    bool
	join   api.Span
}

// twos is spans that are apart, next to each other, touch in one time, overlap, lie one in the other, and are the same.
func twos() []two {
	return []two{
		{of(1, 2), of(3, 4), true, api.Span{}, false, of(1, 4)},
		{of(1, 2), of(8, 9), true, api.Span{}, false, of(1, 9)},
		{of(1, 2), of(2, 4), false, of(2, 2), true, of(1, 4)},
		{of(1, 5), of(4, 9), false, of(4, 5), true, of(1, 9)},
		{of(1, 9), of(4, 5), false, of(4, 5), true, of(1, 9)},
		{of(1, 9), of(1, 5), false, of(1, 5), true, of(1, 9)},
		{of(1, 9), of(5, 9), false, of(5, 9), true, of(1, 9)},
		{of(1, 9), of(7, 7), false, of(7, 7), true, of(1, 9)},
		{of(4, 9), of(4, 9), false, of(4, 9), true, of(4, 9)},
		{of(7, 7), of(7, 7), false, of(7, 7), true, of(7, 7)},
		{of(7, 7), of(7, 9), false, of(7, 7), true, of(7, 9)},
		{of(6, 7), of(7, 7), false, of(7, 7), true, of(6, 7)},
		{of(6, 6), of(7, 7), true, api.Span{}, false, of(6, 7)},
		{of(0, 0), of(0, 0), false, of(0, 0), true, of(0, 0)},
		{of(0, 0), of(0, most), false, of(0, 0), true, of(0, most)},
		{of(0, 0), of(1, 1), true, api.Span{}, false, of(0, 1)},
		{of(0, 0), of(most, most), true, api.Span{}, false, of(0, most)},
		{of(0, most-1), of(most, most), true, api.Span{}, false, of(0, most)},
		{of(0, most), of(most, most), false, of(most, most), true, of(0, most)},
		{of(0, most), of(0, most), false, of(0, most), true, of(0, most)},
	}
}

// checkBefore holds Before against what it is to answer.
func checkBefore(t *testing.T, a, b api.Span, want bool) {
	t.Helper()
	if got := Before(a, b); got != want {
		t.Errorf("Before(%v, %v) = %v", a, b, got)
	}
}

// checkMeet holds Meet against what it is to answer.
func checkMeet(t *testing.T, a, b, want api.Span, wantMet bool) {
	t.Helper()
	if got, met := Meet(a, b); got != want || met != wantMet {
		t.Errorf("Meet(%v, %v) = %v, %v, want %v, %v", a, b, got, met, want, wantMet)
	}
}

// checkJoin holds Join against what it is to answer.
func checkJoin(t *testing.T, l []api.Span, want api.Span, wantJoined bool) {
	t.Helper()
	if got, joined := Join(l...); got != want || joined != wantJoined {
		t.Errorf("Join(%v) = %v, %v, want %v, %v", l, got, joined, want, wantJoined)
	}
}

// P5.3: Before, Meet and Join of two, either way round.
func TestTwo(t *testing.T) {
	for _, c := range twos() {
		checkBefore(t, c.a, c.b, c.before)
		checkBefore(t, c.b, c.a, false)
		checkMeet(t, c.a, c.b, c.meet, c.met)
		checkMeet(t, c.b, c.a, c.meet, c.met)
		checkJoin(t, []api.Span{c.a, c.b}, c.join, true)
		checkJoin(t, []api.Span{c.b, c.a}, c.join, true)
	}
}

// P5.3: nothing is before what is no span, nor behind it, meets it, or is joined with it.
func TestTwoWrong(t *testing.T) {
	for _, bad := range noSpans() {
		for _, s := range append(someSpans(0), noSpans()[:20]...) {
			checkBefore(t, bad, s, false)
			checkBefore(t, s, bad, false)
			checkMeet(t, bad, s, api.Span{}, false)
			checkMeet(t, s, bad, api.Span{}, false)
			checkJoin(t, []api.Span{bad, s}, api.Span{}, false)
			checkJoin(t, []api.Span{s, bad}, api.Span{}, false)
		}
		checkMeet(t, bad, bad, api.Span{}, false)
		checkBefore(t, bad, bad, false)
	}
}

// P5.3: two spans meet in just the times that both have, and joined they have all of both, but no time less or more at the ends.
func TestTwoByTheirTimes(t *testing.T) {
	for _, a := range nearSpans() {
		for _, b := range nearSpans() {
			both, met := Meet(a, b)
			all, joined := Join(a, b)
			some := false
			for _, at := range places() {
				inBoth := Has(a, at) && Has(b, at)
				some = some || inBoth
				if Has(both, at) != inBoth && met {
					t.Errorf("Meet(%v, %v) = %v", a, b, both)
				}
				if (Has(a, at) || Has(b, at)) && !Has(all, at) {
					t.Errorf("Join(%v, %v) = %v", a, b, all)
				}
			}
			if some != met {
				t.Errorf("Meet(%v, %v) = %v, %v", a, b, both, met)
			}
			if !joined || !Has(a, all.Lo) && !Has(b, all.Lo) || !Has(a, all.Hi) && !Has(b, all.Hi) {
				t.Errorf("Join(%v, %v) = %v, %v", a, b, all, joined)
			}
		}
	}
}

// P5.3: Join, of none, of one, and of many in any order.
func TestJoin(t *testing.T) {
	if s, joined := Join(); s != (api.Span{}) || joined {
		t.Error("none", s, joined)
	}
	checkJoin(t, nil, api.Span{}, false)
	checkJoin(t, []api.Span{}, api.Span{}, false)
	for _, s := range someSpans(3) {
		checkJoin(t, []api.Span{s}, s, true)
		checkJoin(t, []api.Span{s, s, s}, s, true)
	}
	l := []api.Span{of(50, 60), of(20, 30), of(25, 70), of(90, 90), of(21, 22)}
	for range l {
		checkJoin(t, l, of(20, 90), true)
		l = append(l[1:], l[0])
	}
	checkJoin(t, someSpans(20), of(0, most), true)
	long := make([]api.Span, 10000)
	for k := range long {
		long[k] = of(int64(5000+k), int64(30000-k))
	}
	checkJoin(t, long, of(5000, 30000), true)
	slices.Reverse(long)
	checkJoin(t, long, of(5000, 30000), true)
}

// P5.3: what is no span is told at any place among many, and alone.
func TestJoinWrong(t *testing.T) {
	for _, bad := range noSpans() {
		checkJoin(t, []api.Span{bad}, api.Span{}, false)
		for place := range 6 {
			l := []api.Span{of(5, 9), of(0, 0), of(0, most), of(7, 7), of(most, most)}
			checkJoin(t, slices.Insert(l, place, bad), api.Span{}, false)
		}
	}
	for place := range 1000 {
		l := slices.Repeat([]api.Span{of(5, 9)}, 1000)
		l[place] = of(9, 8)
		checkJoin(t, l, api.Span{}, false)
	}
}

// The rules that hold everywhere: what is handed in is not changed, nor the room behind it.
func TestJoinLetsItsListBe(t *testing.T) {
	l := []api.Span{of(5, 6), of(1, 2), of(8, 9), of(0, 99)}
	was := slices.Clone(l)
	Join(l[:3]...)
	Join(l[:0]...)
	if !slices.Equal(l, was) {
		t.Error("changed", l)
	}
	checkJoin(t, l[:3], of(1, 9), true)
}

// P5.4: of two spans one is before the other one, or they meet, and just one of these.
func TestBeforeOrMeet(t *testing.T) {
	for _, l := range [][]api.Span{nearSpans(), someSpans(3)} {
		for _, a := range l {
			for _, b := range l {
				n := 0
				if Before(a, b) {
					n++
				}
				if Before(b, a) {
					n++
				}
				if _, met := Meet(a, b); met {
					n++
				}
				if n != 1 {
					t.Errorf("%v and %v: %d of the three hold", a, b, n)
				}
			}
		}
	}
}

// P1: every call answers at all arguments; beside an error, and where there is nothing, there is no span, and else there is one.
func TestAllAnswer(t *testing.T) {
	held := func(s api.Span, ok bool) {
		t.Helper()
		if !ok && s != (api.Span{}) || ok && Check(s) != api.OK {
			t.Errorf("%v, %v", s, ok)
		}
	}
	heldErr := func(s api.Span, err api.Errno) {
		t.Helper()
		held(s, err == api.OK)
	}
	numbers := append(someTimes(0), noTimes()...)
	spans := append(someSpans(0), noSpans()...)
	for _, a := range spans {
		for _, n := range numbers {
			heldErr(Around(a.Lo, n))
			heldErr(Widen(a, n))
			heldErr(Drift(a, n, 0.7))
			for _, rate := range noRates() {
				heldErr(Drift(a, n, rate))
			}
			if Has(a, n) && (Check(a) != api.OK || n < a.Lo || n > a.Hi) {
				t.Errorf("Has(%v, %d)", a, n)
			}
		}
		for _, b := range slices.Concat(someSpans(0)[:60], noSpans()[:40]) {
			held(Meet(a, b))
			held(Join(a, b, a))
			if Before(a, b) && Before(b, a) {
				t.Errorf("%v, %v", a, b)
			}
		}
	}
}
