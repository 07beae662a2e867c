package clock

import (
	"math/big"
	"math/rand/v2"
	"testing"

	"moiety/api"
)

// plain is a clock as the chapter's words have it, step by step, by numbers of any size.
type plain struct {
	rate                 *big.Rat
	isSet                bool
	reading, time, width int64
	last, floor          int64
}

func plainly(rate float64) *plain { return &plain{rate: new(big.Rat).SetFloat64(rate)} }

func isNone(l ...int64) bool {
	for _, t := range l {
		if t < 0 || t > most {
			return true
		}
	}
	return false
}

func (p *plain) Set(h, t, e int64) api.Errno {
	if isNone(h, t, e) {
		return api.ErrClockTime
	}
	if h < p.last {
		return api.ErrClockBack
	}
	p.isSet, p.reading, p.time, p.width, p.last = true, h, t, e, h
	return api.OK
}

func (p *plain) Now(h int64) (api.Span, api.Errno) {
	if isNone(h) {
		return api.Span{}, api.ErrClockTime
	}
	if !p.isSet {
		return api.Span{}, api.ErrClockNone
	}
	if h < p.last {
		return api.Span{}, api.ErrClockBack
	}
	if p.time+h-p.reading > most {
		return api.Span{}, api.ErrClockFull
	}
	r := new(big.Rat).Mul(p.rate, new(big.Rat).SetInt64(p.reading-h)) // Div cuts downwards: so below 0 it leads away from 0
	by := p.width - new(big.Int).Div(r.Num(), r.Denom()).Int64()
	sum := p.time + h - p.reading
	s := of(max(sum-by, 0, p.floor), min(sum+by, most))
	s.Hi = max(s.Lo, s.Hi)
	p.last, p.floor = h, s.Lo
	return s, api.OK
}

func (p *plain) Past(t, h int64) (bool, api.Errno) {
	s, err := p.Now(h)
	if err != api.OK {
		return false, err
	}
	return t < s.Lo, api.OK
}

// player is what both a clock and a plain one can be asked.
type player interface {
	Set(h, t, e int64) api.Errno
	Now(h int64) (api.Span, api.Errno)
	Past(t, h int64) (bool, api.Errno)
}

// call is one call of any kind, by numbers of any kind.
type call struct {
	kind    int
	h, t, e int64
}

// said is what a call answers.
type said struct {
	s    api.Span
	past bool
	err  api.Errno
}

func (k call) to(c player) (l said) {
	switch k.kind {
	case 0:
		l.err = c.Set(k.h, k.t, k.e)
	case 1:
		l.s, l.err = c.Now(k.h)
	default:
		l.past, l.err = c.Past(k.t, k.h)
	}
	return l
}

// number is a number of some size, or one that is no time; near is one about which it often is.
func number(r *rand.Rand, near int64) int64 {
	switch r.IntN(12) {
	case 0:
		return noTimes()[r.IntN(len(noTimes()))]
	case 1:
		return []int64{0, 1, most - 1, most}[r.IntN(4)]
	case 2:
		return r.Int64N(most+1) >> r.IntN(50)
	case 3:
		return near - r.Int64N(5)
	}
	return near + r.Int64N(1+near/8+3)
}

// someCalls is calls whose readings rise for the most part, by small steps and by great ones.
func someCalls(r *rand.Rand, n int) []call {
	l := make([]call, n)
	h, t := int64(0), r.Int64N(most)>>r.IntN(50)
	for k := range l {
		l[k] = call{kind: r.IntN(3), h: number(r, h), t: number(r, t), e: number(r, 5)}
		if !isNone(l[k].h) && l[k].h < most/1000 {
			h = max(h, l[k].h)
		}
		if !isNone(l[k].t) && r.IntN(4) == 0 {
			t = l[k].t
		}
	}
	return l
}

// P6.1, P6.2, P6.3: any calls, right and wrong ones, answer as the chapter's words have it.
func TestAnyCalls(t *testing.T) {
	r := rand.New(rand.NewPCG(5, 6))
	errs := map[api.Errno]int{}
	for range 100 {
		for _, rate := range someRates() {
			c, p := made(t, rate), plainly(rate)
			for _, k := range someCalls(r, 60) {
				got, want := k.to(c), k.to(p)
				if got != want {
					t.Fatalf("rate %v, %v: %v, want %v", rate, k, got, want)
				}
				errs[got.err]++
			}
		}
	}
	for _, err := range []api.Errno{api.OK, api.ErrClockTime, api.ErrClockBack, api.ErrClockNone, api.ErrClockFull} {
		if errs[err] < 200 {
			t.Error("too few of", err, errs)
		}
	}
}

// played is two clocks that went through the same.
func played(t *testing.T, l []call) (a, b *Clock) {
	t.Helper()
	a, b = made(t, 0.01), made(t, 0.01)
	for _, k := range l {
		if got, err := k.to(a), k.to(b); got != err || got.err != api.OK {
			t.Fatal(k, got, err)
		}
	}
	return a, b
}

// histories is what clocks may have gone through: none of it was refused, their last reading is 50 if they have one.
func histories() [][]call {
	return [][]call{
		nil,
		{{0, 50, 1000, 3}},
		{{0, 0, 1000, 3}, {1, 50, 0, 0}},
		{{0, 0, 1000, 3}, {2, 50, 7, 0}},
		{{0, 0, 1000, 3}, {1, 40, 0, 0}, {0, 50, 500, 9}},
		{{0, 20, most - 40, 3}, {1, 50, 0, 0}},
		{{0, 0, most, 0}, {1, 0, 0, 0}, {0, 50, 0, 0}},
	}
}

// P6.1, P6.2, P6.3: a call that is refused leaves the clock as it was: its last reading, its basis and its floor.
func TestRefusedCallsChangeNothing(t *testing.T) {
	var calls []call
	for _, n := range append(noTimes(), 0, 49, 50, 51, 100, 2000, most-1, most) {
		calls = append(calls, call{0, n, 3, 3}, call{0, 90, n, 3}, call{0, 90, 3, n}, call{1, n, 0, 0}, call{2, 0, n, 0})
		calls = append(calls, call{2, n, low, 0}, call{2, n, high, 0}, call{0, n, n, n})
	}
	asked := 0
	for _, history := range histories() {
		for _, k := range calls {
			a, b := played(t, history)
			was, basis := *a, a.basis
			if basis != nil {
				copied := *basis
				basis = &copied
			}
			if k.to(a).err == api.OK {
				continue
			}
			asked++
			if *a != was || basis != nil && *a.basis != *basis {
				t.Errorf("%v, then %v: the clock is %v, was %v", history, k, *a, was)
			}
			goOnAlike(t, a, b)
		}
	}
	if asked < 500 {
		t.Error("too few", asked)
	}
}

// goOnAlike holds two clocks against each other: by readings about the last one, by the basis, and by the floor.
func goOnAlike(t *testing.T, a, b *Clock) {
	t.Helper()
	for _, k := range []call{
		{1, 49, 0, 0}, {1, 50, 0, 0}, {2, 49, 0, 0}, {1, 60, 0, 0}, {2, 60, 1000, 0}, {1, 61, 0, 0},
		{0, 60, 0, 0}, {0, 61, 0, 0}, {1, 61, 0, 0}, {1, 5000, 0, 0},
	} {
		if got, want := k.to(a), k.to(b); got != want {
			t.Errorf("%v = %v, want %v", k, got, want)
		}
	}
}

// P1: every call answers, at all arguments, and beside an error all else is nought.
func TestAllAnswer(t *testing.T) {
	numbers := append(noTimes(), 0, 1, 1000, most-1, most)
	for _, rate := range append(someRates(), noRates()...) {
		c, err := New(rate)
		if (c == nil) != (err != api.OK) {
			t.Error(rate, c, err)
		}
		if err != api.OK {
			continue
		}
		for _, h := range numbers {
			for _, time := range numbers {
				for kind := range 3 {
					checkNoughts(t, call{kind, h, time, time}, c)
				}
			}
		}
	}
}

// checkNoughts makes a call, of which all else is to be nought beside an error.
func checkNoughts(t *testing.T, k call, c *Clock) {
	t.Helper()
	if got := k.to(c); got.err != api.OK && got != (said{err: got.err}) {
		t.Errorf("%v = %v", k, got)
	}
}
