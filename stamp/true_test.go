package stamp

import (
	"math/rand/v2"
	"testing"

	"moiety/api"
	"moiety/clock"
	"moiety/span"
)

// hand is a right clock, and what it reads at a true time that goes on.
type hand struct {
	*clock.Clock
	part  int64 // it drifts by at most one such part; 0: not at all
	how   int   // 0: as slow as may be, 1: as fast as may be, else anyhow
	reads int64
}

// someHand is a clock that reads something, and is set about a true time; each part is one of which the float isn't below it.
func someHand(t *testing.T, r *rand.Rand, at int64) *hand {
	t.Helper()
	n := &hand{part: []int64{0, 100, 128, 1000, 1 << 20}[r.IntN(5)], how: r.IntN(3), reads: r.Int64N(most / 2 >> r.IntN(50))}
	rate := 0.0
	if n.part > 0 {
		rate = 1 / float64(n.part)
	}
	var err api.Errno
	if n.Clock, err = clock.New(rate); err != api.OK {
		t.Fatal(rate, err)
	}
	n.setAbout(t, r, at)
	return n
}

// setAbout sets a clock to a time of which the true one is within the width: at its very end, or somewhere.
func (n *hand) setAbout(t *testing.T, r *rand.Rand, at int64) {
	t.Helper()
	e := []int64{0, 1, r.Int64N(10), r.Int64N(300)}[r.IntN(4)]
	off := []int64{-e, e, r.Int64N(2*e+1) - e}[r.IntN(3)]
	if err := n.Set(n.reads, min(max(at+off, 0), most), e); err != api.OK {
		t.Fatal(n.reads, at, err)
	}
}

// goOn lets so much true time pass for a clock: what passes by its readings is wrong by at most its part of that.
func (n *hand) goOn(r *rand.Rand, passed int64) {
	least, greatest := passed, passed
	if n.part > 0 {
		least = (passed*n.part + n.part) / (n.part + 1) // cut upwards
		greatest = passed * n.part / (n.part - 1)
	}
	n.reads += []int64{least, greatest, least + r.Int64N(greatest-least+1)}[n.how]
}

// tells is what a clock tells, in which the true time is; false, if it must be set again to tell.
func (n *hand) tells(t *testing.T, at int64) (api.Span, bool) {
	t.Helper()
	s, err := n.Now(n.reads)
	if err == api.ErrClockFull {
		return s, false
	}
	if err != api.OK || !span.Has(s, at) {
		t.Fatalf("at %d: %v, %d: the play's clock isn't right", at, s, err)
	}
	return s, true
}

// giver is a source, and what it gave: the greatest stamp, and the stamps that no clock told to be past yet.
type giver struct {
	*Source
	open []int64
	past int64 // the greatest one that was past by a clock
}

// give lets a source give a stamp, which is to be above all of the other one that were past by a clock, then or ahead; how many of these were above all that it gave itself.
func (g *giver) give(t *testing.T, now api.Span, other *giver, above ...int64) int {
	t.Helper()
	own := g.Last()
	at, err := g.Next(now, above...)
	if err == api.ErrStampFull {
		return 0
	}
	if err != api.OK || at <= other.past {
		t.Fatalf("%d, %d, by %v, behind %d: and %d was past", at, err, now, own, other.past)
	}
	g.open = append(g.open, at)
	if other.past > own {
		return 1
	}
	return 0
}

// look asks a clock which stamps are past.
func (g *giver) look(t *testing.T, n *hand) {
	t.Helper()
	var open []int64
	for _, at := range g.open {
		isPast, err := n.Past(at, n.reads)
		if err != api.OK {
			t.Fatal(at, err)
		}
		if isPast {
			g.past = max(g.past, at)
		} else {
			open = append(open, at)
		}
	}
	g.open = open
}

// step is one of what may happen at a moment: a stamp is given, by the clock's time, above what comes about it, or more; or stamps are looked at; or a source hears of one that stands.
func step(t *testing.T, r *rand.Rand, l [2]*giver, n *hand, at int64) (told int) {
	t.Helper()
	now, ok := n.tells(t, at)
	if !ok {
		n.setAbout(t, r, at)
		return 0
	}
	k := r.IntN(2)
	switch r.IntN(12) {
	case 0:
		return l[k].give(t, now, l[1-k], at+r.Int64N(400), low)
	case 1:
		return l[k].give(t, now, l[1-k], at-r.Int64N(400), now.Lo, at)
	case 2:
		l[k].Keep(at + r.Int64N(200) - 100)
	case 3, 4, 5, 6:
		return l[k].give(t, now, l[1-k])
	default:
		l[k].look(t, n)
	}
	return 0
}

// P10.3: two sources, which know nothing of each other, by right clocks that drift, at true times about both ends and between: what is given when a stamp of the other one is past by a clock is above it.
func TestOneBehindTheOther(t *testing.T) {
	r := rand.New(rand.NewPCG(5, 6))
	told := 0
	for round := range 1000 {
		at := []int64{0, 3, 1000, 1 << 40, most - 4000}[round%5]
		clocks := []*hand{someHand(t, r, at), someHand(t, r, at), someHand(t, r, at)}
		l := [2]*giver{{Source: made(t)}, {Source: made(t)}}
		for range 150 {
			for range r.IntN(5) {
				told += step(t, r, l, clocks[r.IntN(len(clocks))], at)
			}
			passed := min([]int64{0, 1, r.Int64N(10), 99, 101, r.Int64N(2000)}[r.IntN(6)], most-at)
			at += passed
			for _, n := range clocks {
				n.goOn(r, passed)
				if r.IntN(8) == 0 {
					n.setAbout(t, r, at)
				}
			}
		}
	}
	if told < 5000 {
		t.Error("too few", told)
	}
}

// P10.2, P10.3: who gave a stamp waits, by his clock, as long as Wait says, again if the clock went too fast: it is past by his clock then, and not ahead of that; and what another one gives is above it.
func TestWaitTillPast(t *testing.T) {
	r := rand.New(rand.NewPCG(7, 8))
	for round := range 2000 {
		at := []int64{0, 3, 1000, 1 << 40, most - 4000}[round%5]
		mine, other := someHand(t, r, at), someHand(t, r, at)
		now, _ := mine.tells(t, at)
		stamp, err := made(t).Next(now)
		if err != api.OK {
			t.Fatal(now, err)
		}
		for range 200 {
			now, _ = mine.tells(t, at)
			by, err := Wait(stamp, now)
			isPast, _ := mine.Past(stamp, mine.reads)
			if err != api.OK || isPast != (by == 0) {
				t.Fatalf("Wait(%d, %v) = %d, %d, and it is past: %v", stamp, now, by, err, isPast)
			}
			at += by
			mine.goOn(r, by)
			other.goOn(r, by)
			if by == 0 {
				break
			}
		}
		now, _ = other.tells(t, at)
		later, err := made(t).Next(now)
		if isPast, _ := mine.Past(stamp, mine.reads); !isPast || later <= stamp || err != api.OK {
			t.Fatalf("%d, %d, by %v: and %d was past: %v", later, err, now, stamp, isPast)
		}
	}
}

// P10.2: by a clock that goes right, a stamp is past as soon as so much passed as Wait says, and not ahead of that.
func TestWaitByRightClock(t *testing.T) {
	for _, width := range []int64{0, 1, 5, 1000} {
		for _, ahead := range []int64{-width - 3, -width - 1, -width, 0, 1, width, width + 1, width + 2, 500} {
			c, _ := clock.New(0)
			c.Set(10, 5000, width)
			now, _ := c.Now(10)
			by, err := Wait(5000+ahead, now)
			if err != api.OK || by != max(0, ahead+width+1) {
				t.Fatal(width, ahead, by, err)
			}
			for passed := max(0, by-3); passed < by+3; passed++ {
				if isPast, err := c.Past(5000+ahead, 10+passed); isPast != (passed >= by) || err != api.OK {
					t.Errorf("width %d, %d ahead: past behind %d: %v, %d; Wait said %d", width, ahead, passed, isPast, err, by)
				}
			}
		}
	}
}
