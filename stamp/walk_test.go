package stamp

import (
	"math/rand/v2"
	"slices"
	"sort"
	"testing"

	"moiety/api"
)

// plain is a source as the chapter's words have it: all stamps that it gave or kept, in order.
type plain struct{ stamps []int64 }

func isSpan(now api.Span) bool { return 0 <= now.Lo && now.Lo <= now.Hi && now.Hi <= most }

// Next looks for the least number that is above all others, up to one that is no time any more.
func (p *plain) Next(now api.Span, above ...int64) (int64, api.Errno) {
	if !isSpan(now) {
		return 0, api.ErrStampSpan
	}
	isAbove := func(n int64) bool {
		for _, l := range [][]int64{p.stamps, {0, now.Hi}, above} {
			if slices.ContainsFunc(l, func(t int64) bool { return t >= n }) {
				return false
			}
		}
		return true
	}
	n := int64(sort.Search(int(most+1), func(n int) bool { return isAbove(int64(n)) }))
	if n == most+1 {
		return 0, api.ErrStampFull
	}
	p.stamps = append(p.stamps, n)
	return n, api.OK
}

func (p *plain) Keep(t int64) api.Errno {
	if t <= 0 || t > most {
		return api.ErrStampSpan
	}
	p.stamps = append(p.stamps, t)
	return api.OK
}

func (p *plain) Last() int64 {
	l := append([]int64{0}, p.stamps...)
	slices.Sort(l)
	return l[len(l)-1]
}

// plainWait looks for the least number with which a stamp is below a span's Lo.
func plainWait(t int64, now api.Span) (int64, api.Errno) {
	if t <= 0 || t > most || !isSpan(now) {
		return 0, api.ErrStampSpan
	}
	return int64(sort.Search(int(2*most), func(n int) bool { return t < now.Lo+int64(n) })), api.OK
}

// player is what both a source and a plain one can be asked.
type player interface {
	Next(now api.Span, above ...int64) (int64, api.Errno)
	Keep(t int64) api.Errno
	Last() int64
}

// call is one call of any kind, by numbers of any kind.
type call struct {
	keeps bool
	t     int64 // what is kept
	now   api.Span
	above []int64
}

// said is what a call answers, and what the last stamp is behind it.
type said struct {
	t, last int64
	err     api.Errno
}

func (k call) to(s player) (l said) {
	if k.keeps {
		l.err = s.Keep(k.t)
	} else {
		l.t, l.err = s.Next(k.now, k.above...)
	}
	l.last = s.Last()
	return l
}

// number is a number of some size, or one that is no time; near is one about which it often is.
func number(r *rand.Rand, near int64) int64 {
	switch r.IntN(20) {
	case 0:
		return noTimes()[r.IntN(len(noTimes()))]
	case 1:
		return []int64{0, 1, 2, most - 2, most - 1, most}[r.IntN(6)]
	case 2:
		return r.Int64N(most+1) >> r.IntN(50)
	case 3, 4, 5, 6:
		return near - r.Int64N(50)
	}
	return near + r.Int64N(20) - 6
}

// someSpan is a span of one time or of many, for the most part.
func someSpan(r *rand.Rand, near int64) api.Span {
	lo, hi := number(r, near), number(r, near)
	switch r.IntN(12) {
	case 0:
		return of(lo, lo)
	case 1:
		return of(hi, lo)
	}
	return of(min(lo, hi), max(lo, hi))
}

// someCall is a call by numbers that are about one, for the most part.
func someCall(r *rand.Rand, near int64) call {
	k := call{keeps: r.IntN(4) == 0, t: number(r, near), now: someSpan(r, near)}
	for range r.IntN(4) * r.IntN(3) {
		k.above = append(k.above, number(r, near))
	}
	return k
}

// P10.1: any calls, right and wrong ones, answer as the chapter's words have it.
func TestAnyCalls(t *testing.T) {
	r := rand.New(rand.NewPCG(1, 2))
	errs := map[api.Errno]int{}
	for round := range 1000 {
		s, p := made(t), &plain{}
		base := []int64{0, 100, 1 << 40, most - 100, most - 20}[round%5]
		for step := range int64(30) {
			k := someCall(r, base+step)
			got, want := k.to(s), k.to(p)
			if got != want {
				t.Fatalf("%v: %v, want %v", k, got, want)
			}
			errs[got.err]++
		}
	}
	for _, err := range []api.Errno{api.OK, api.ErrStampSpan, api.ErrStampFull} {
		if errs[err] < 1000 {
			t.Error("too few of", err, errs)
		}
	}
}

// P10.2: Wait of any stamps by any spans, right and wrong ones, answers as the chapter's words have it.
func TestAnyWait(t *testing.T) {
	r := rand.New(rand.NewPCG(3, 4))
	waits := 0
	for round := range 30000 {
		base := []int64{2, 100, 1 << 40, most - 100, most - 2}[round%5]
		at, now := number(r, base), someSpan(r, base)
		want, wantErr := plainWait(at, now)
		wait(t, at, now, want, wantErr)
		if want > 0 {
			waits++
		}
	}
	if waits < 5000 {
		t.Error("too few", waits)
	}
}

// histories is what sources may have gone through: none of it was refused.
func histories() [][]call {
	return [][]call{
		nil,
		{{now: of(0, 0)}},
		{{now: of(5, 9)}, {now: of(5, 9)}},
		{{keeps: true, t: 50}},
		{{keeps: true, t: 50}, {keeps: true, t: 20}, {now: of(1, 2), above: []int64{60, 3}}},
		{{now: of(1, 2), above: []int64{most - 2}}},
		{{keeps: true, t: most - 1}},
		{{keeps: true, t: most}},
		{{now: of(0, most-1)}},
	}
}

// refusable is calls of which each is refused by some source, and some by each.
func refusable() []call {
	var l []call
	for _, now := range noSpans() {
		l = append(l, call{now: now}, call{now: now, above: []int64{70}}, call{now: now, above: []int64{3, high}})
	}
	for _, at := range noStamps() {
		l = append(l, call{keeps: true, t: at})
	}
	for _, full := range []int64{most, most + 1, 1 << 62, high} {
		l = append(l, call{now: of(0, 0), above: []int64{full}}, call{now: of(3, 80), above: []int64{90, full, 5}})
	}
	for _, now := range someSpans() {
		l = append(l, call{now: now})
	}
	return l
}

// played is a source that went through something.
func played(t *testing.T, l []call) *Source {
	t.Helper()
	s := made(t)
	for _, k := range l {
		if got := k.to(s); got.err != api.OK {
			t.Fatal(k, got)
		}
	}
	return s
}

// P10.1: a call that is refused leaves the source as it was: it is as one that never was asked, and goes on as that does; a source that is full too.
func TestRefusedCallsChangeNothing(t *testing.T) {
	for _, history := range histories() {
		asked := 0
		for _, k := range refusable() {
			a, b := played(t, history), played(t, history)
			if got := k.to(a); got.err == api.OK {
				continue
			} else if got.t != 0 || got.last != b.Last() {
				t.Errorf("%v, then %v: %v", history, k, got)
			}
			asked++
			if *a != *b {
				t.Errorf("%v, then %v: the source is %v, was %v", history, k, *a, *b)
			}
			goOnAlike(t, a, b)
		}
		if asked < 100 {
			t.Error("too few", asked)
		}
	}
}

// goOnAlike holds two sources against each other: by what is below their last stamps, and by what is above.
func goOnAlike(t *testing.T, a, b *Source) {
	t.Helper()
	for _, k := range []call{
		{now: of(0, 0)}, {keeps: true, t: 1}, {now: of(0, 0), above: []int64{1, low}}, {keeps: true, t: 75}, {now: of(0, 0)},
		{now: of(3, 95)}, {keeps: true, t: most - 1}, {now: of(0, 0)}, {now: of(0, 0)},
	} {
		if got, want := k.to(a), k.to(b); got != want {
			t.Errorf("%v = %v, want %v", k, got, want)
		}
	}
}

// P1: every call answers, at all arguments, and beside an error all else is nought.
func TestAllAnswer(t *testing.T) {
	numbers := append(noTimes(), 0, 1, 1000, most-1, most)
	for _, a := range numbers {
		for _, b := range numbers {
			for _, c := range numbers {
				checkNoughts(t, call{now: of(a, b), above: []int64{c, a}})
				checkNoughts(t, call{keeps: true, t: c, now: of(a, b)})
				if n, err := Wait(c, of(a, b)); n < 0 || err != api.OK && n != 0 {
					t.Errorf("Wait(%d, %v) = %d, %d", c, of(a, b), n, err)
				}
			}
		}
	}
}

// checkNoughts makes a call, of which all else is to be nought beside an error, and a stamp beside none.
func checkNoughts(t *testing.T, k call) {
	t.Helper()
	got := k.to(made(t))
	if got.err != api.OK && got != (said{err: got.err}) {
		t.Errorf("%v = %v", k, got)
	}
	if got.err == api.OK && (got.last < 1 || got.last > most || !k.keeps && got.t != got.last) {
		t.Errorf("%v = %v", k, got)
	}
}
