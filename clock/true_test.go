package clock

import (
	"math/big"
	"math/rand/v2"
	"testing"

	"moiety/api"
	"moiety/span"
)

// manner is how a right clock goes, within its rate.
type manner int

const (
	slow manner = iota
	fast
	byTurns
	anyhow
)

// hand is a right clock, and what it reads at a true time that goes on.
type hand struct {
	*Clock
	rate  float64
	how   manner
	reads int64
	turns int64
}

// aHand is a clock that reads something, and was set to a time and a width within which the true time is.
func aHand(t *testing.T, r *rand.Rand, how manner, rate float64, at int64) *hand {
	t.Helper()
	n := &hand{Clock: made(t, rate), rate: rate, how: how, reads: r.Int64N(most / 2 >> r.IntN(50))}
	n.setAbout(t, r, at)
	return n
}

// setAbout sets a clock to a time of which the true one is within the width: at its very end, or somewhere.
func (n *hand) setAbout(t *testing.T, r *rand.Rand, at int64) {
	t.Helper()
	e := []int64{0, 1, r.Int64N(10), r.Int64N(5000)}[r.IntN(4)]
	off := []int64{-e, e, r.Int64N(2*e+1) - e}[r.IntN(3)]
	set(t, n.Clock, n.reads, min(max(at+off, 0), most), e, api.OK)
}

// bounds is the least and the greatest reading that may pass while so much true time does: they are apart by no more than the rate of what passed by readings.
func bounds(passed int64, rate float64) (least, greatest int64) {
	r := new(big.Rat).SetFloat64(rate)
	one, whole := big.NewRat(1, 1), new(big.Rat).SetInt64(passed)
	lo := new(big.Rat).Quo(whole, new(big.Rat).Add(one, r))
	hi := new(big.Rat).Quo(whole, new(big.Rat).Sub(one, r))
	lo.Neg(lo) // Div cuts downwards: so upwards of what is turned about
	least = -new(big.Int).Div(lo.Num(), lo.Denom()).Int64()
	return least, new(big.Int).Div(hi.Num(), hi.Denom()).Int64()
}

// goOn lets so much true time pass for a clock.
func (n *hand) goOn(r *rand.Rand, passed int64) {
	least, greatest := bounds(passed, n.rate)
	n.turns++
	switch {
	case n.how == slow, n.how == byTurns && n.turns/20%2 == 0:
		n.reads += least
	case n.how == fast, n.how == byTurns:
		n.reads += greatest
	default:
		n.reads += least + r.Int64N(greatest-least+1)
	}
}

// tells is what a clock tells: the true time is in it.
func (n *hand) tells(t *testing.T, at int64) api.Span {
	t.Helper()
	s, err := n.Now(n.reads)
	if err != api.OK || !span.Has(s, at) {
		t.Fatalf("by the rate %v in the manner %d at %d: %v, %d", n.rate, n.how, at, s, err)
	}
	return s
}

// steps is true times that pass one behind the other, short ones, long ones and none; by hundreds clocks go wrong as far as they may.
func steps(r *rand.Rand, n int) []int64 {
	l := make([]int64, n)
	for k := range l {
		l[k] = []int64{0, 1, r.Int64N(10), 99, 101, 9999, 10100, r.Int64N(100000), r.Int64N(1 << 33)}[r.IntN(9)]
	}
	return l
}

// eachHand plays with a clock of each rate, in each manner, from true times at both ends of all times and between.
func eachHand(t *testing.T, play func(r *rand.Rand, n *hand, at int64)) {
	t.Helper()
	r := rand.New(rand.NewPCG(7, 8))
	for _, rate := range someRates() {
		for how := slow; how <= anyhow; how++ {
			for _, at := range []int64{0, 3, 1000, 1 << 40, most / 2} {
				play(r, aHand(t, r, how, rate, at), at)
			}
		}
	}
}

// P6.4: the true time is in each span that a clock tells that was set once.
func TestTrueTimeOfOneBasis(t *testing.T) {
	eachHand(t, func(r *rand.Rand, n *hand, at int64) {
		n.tells(t, at)
		for _, passed := range steps(r, 100) {
			at += passed
			n.goOn(r, passed)
			if r.IntN(3) > 0 { // a clock needn't be asked each time
				n.tells(t, at)
			}
		}
	})
}

// P6.4: and of one that is set again and again, to earlier times and to later ones than it told.
func TestTrueTimeOfManyBases(t *testing.T) {
	eachHand(t, func(r *rand.Rand, n *hand, at int64) {
		for _, passed := range steps(r, 200) {
			at += passed
			n.goOn(r, passed)
			if r.IntN(6) == 0 {
				n.setAbout(t, r, at)
			}
			if r.IntN(3) > 0 {
				n.tells(t, at)
			}
		}
	})
}

// P6.4: up to the last of all times, of which the clock tells as long as it may.
func TestTrueTimeAtTheEnd(t *testing.T) {
	r := rand.New(rand.NewPCG(9, 10))
	for _, rate := range someRates() {
		for how := slow; how <= anyhow; how++ {
			at := most - 100000
			n := aHand(t, r, how, rate, at)
			for at < most {
				s, err := n.Now(n.reads)
				if err == api.ErrClockFull {
					n.setAbout(t, r, at)
					continue
				}
				if err != api.OK || !span.Has(s, at) {
					t.Fatal(rate, how, at, s, err)
				}
				passed := min(r.Int64N(2000), most-at)
				at += passed
				n.goOn(r, passed)
			}
			n.setAbout(t, r, most)
			n.tells(t, most)
		}
	}
}

// twoHands is two clocks by rates and in manners of their own, at one true time.
func twoHands(t *testing.T, r *rand.Rand, at int64) [2]*hand {
	t.Helper()
	var l [2]*hand
	for k := range l {
		l[k] = aHand(t, r, manner(r.IntN(4)), someRates()[r.IntN(len(someRates()))], at)
	}
	return l
}

// P6.5: where one clock tells that a time is past, both tell spans then, and later, whose Hi is above it.
func TestPastForAll(t *testing.T) {
	r := rand.New(rand.NewPCG(11, 12))
	for round := range 300 {
		at := []int64{0, 5, 1000, 1 << 40}[round%4]
		l := twoHands(t, r, at)
		told := int64(low)
		for _, passed := range steps(r, 60) {
			at += passed
			for _, n := range l {
				n.goOn(r, passed)
				if r.IntN(8) == 0 {
					n.setAbout(t, r, at)
				}
			}
			told = max(told, l[r.IntN(2)].isPast(t, at))
			for _, n := range l {
				if s := n.tells(t, at); s.Hi <= told {
					t.Fatalf("at %d: %v, and %d was past", at, s, told)
				}
			}
		}
	}
}

// isPast is the greatest time that a clock tells is past, of those about its span's Lo and about the true time.
func (n *hand) isPast(t *testing.T, at int64) int64 {
	t.Helper()
	lo := n.tells(t, at).Lo
	told := int64(low)
	for by := int64(-2); by <= 2; by++ {
		for _, time := range []int64{lo + by, at + by} {
			got, err := n.Past(time, n.reads)
			if err != api.OK || got != (time < lo) {
				t.Fatal(time, lo, got, err)
			}
			if got {
				told = max(told, time)
			}
		}
	}
	return told
}

// P6.5: clocks that know the true time just, and one that knows it less well: the time of the one is not past while the other tells no more.
func TestPastForExactClocks(t *testing.T) {
	a, b := running(t, 0, 0, 1000, 0), running(t, 0, 500, 1000, 0)
	for passed := range int64(50) {
		at := 1000 + passed
		past(t, a, at, passed, false, api.OK)
		past(t, a, at-1, passed, true, api.OK)
		now(t, b, 500+passed, of(at, at), api.OK)
	}
	c := running(t, 0.01, 0, 1005, 5) // it may be as early as the others say
	now(t, c, 0, of(1000, 1010), api.OK)
	past(t, c, 1000, 0, false, api.OK)
	past(t, c, 999, 0, true, api.OK)
}
