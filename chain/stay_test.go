package chain

import (
	"math/rand/v2"
	"testing"

	"moiety/api"
)

// answer is what was told of a time.
type answer struct {
	v   api.Version
	err api.Errno
}

// ask is what a chain tells of a time.
func ask(c *Chain, at int64) answer {
	v, err := c.Get(at)
	return answer{v, err}
}

// notes is what was told of times that were within the last version's T then.
type notes map[int64]answer

// check holds what is told now of all times from the mark on against what was told of them ahead; how many these were.
func (n notes) check(t *testing.T, c *Chain, behind call) int {
	t.Helper()
	checked := 0
	for at, was := range n {
		if at < c.Mark() {
			if got := ask(c, at); got != (answer{err: api.ErrChainOld}) {
				t.Errorf("behind %v: Get(%d) = %v, and the mark is %d", behind, at, got, c.Mark())
			}
			continue
		}
		checked++
		if got := ask(c, at); got != was {
			t.Errorf("behind %v: Get(%d) = %v, was %v", behind, at, got, was)
		}
	}
	return checked
}

// note notes what is told of times, as far as they are from the mark on, and up to the last version's T.
func (n notes) note(c *Chain, times ...int64) {
	last, _ := c.Last()
	for _, at := range times {
		if at >= c.Mark() && at <= last.T {
			n[at] = ask(c, at)
		}
	}
}

// between is all times from one to another one.
func between(from, to int64) []int64 {
	var l []int64
	for at := from; at <= to; at++ {
		l = append(l, at)
	}
	return l
}

// P11.4: in plays of any calls, at both ends of all times and between, of each time from the mark on, up to the last version's T, the same is told behind all that comes later.
func TestWhatCountsStays(t *testing.T) {
	r := rand.New(rand.NewPCG(11, 3))
	checked, none, pruned := 0, 0, 0
	for round := range 300 {
		base := []int64{0, 0, 1000, most - 60, most - 100}[round%5]
		c, n := made(t), notes{}
		for k := range int64(60) {
			play := someCall(r, base+k, c.List())
			got := play.to(c)
			if got.err == api.OK && play.kind == kindPrune {
				pruned++
			}
			checked += n.check(t, c, play)
			n.note(c, between(base, min(base+90, most))...)
		}
		for _, was := range n {
			if was.err == api.ErrChainNone {
				none++
			}
		}
	}
	if checked < 100000 || none < 1000 || pruned < 1000 {
		t.Error("too few", checked, none, pruned)
	}
}

// spread is a time anywhere from one to another one, most often near the first.
func spread(r *rand.Rand, from, to int64) int64 {
	return from + r.Int64N(to-from+1)>>r.IntN(50)
}

// P11.4: also where versions are far apart: just below, at and just above each version's T and each mark, and anywhere between.
func TestWhatCountsStaysFarApart(t *testing.T) {
	r := rand.New(rand.NewPCG(11, 4))
	checked := 0
	for range 150 {
		c, n := made(t), notes{}
		for range 50 {
			last, _ := c.Last()
			play := call{kind: kindPut, at: spread(r, last.T, most), v: r.Int64() - r.Int64()}
			if r.IntN(4) == 0 {
				play = call{kind: kindPrune, at: spread(r, c.Mark(), max(last.T, c.Mark()))}
			}
			play.to(c)
			checked += n.check(t, c, play)
			n.note(c, aroundAll(append(stampsOf(c.List()), c.Mark(), spread(r, 0, most), spread(r, last.T, most))...)...)
		}
	}
	if checked < 100000 {
		t.Error("too few", checked)
	}
}

// P11.3, P11.4: a chain tells of all times from its mark on, those above the last version's T too, what one tells that was put the same and never pruned.
func TestAsNeverPruned(t *testing.T) {
	r := rand.New(rand.NewPCG(11, 5))
	gone := 0
	for round := range 300 {
		base := []int64{0, 1000, most - 60}[round%3]
		a, b := made(t), made(t)
		for k := range int64(50) {
			play := someCall(r, base+k, b.List())
			if got := play.to(a); play.kind == kindPut && got.err == api.OK {
				if err := b.Put(play.at, play.v); err != api.OK {
					t.Fatal(play, err)
				}
			}
			for _, at := range append(between(max(base-3, 0), min(base+80, most)), 0, most) {
				if at >= a.Mark() && ask(a, at) != ask(b, at) {
					t.Fatalf("behind %v: Get(%d) = %v, want %v", play, at, ask(a, at), ask(b, at))
				}
			}
		}
		gone += len(b.List()) - len(a.List())
	}
	if gone < 1000 {
		t.Error("too few went:", gone)
	}
}

// P11.4: a mark beyond a time takes it away, and no other one: what counts at the mark is told from it on.
func TestMarkTakesWhatIsAheadAlone(t *testing.T) {
	l := numbered(3, 4, 8, 15, 16, 23, 42)
	for mark := range int64(50) {
		c, n := having(t, 0, l...), notes{}
		n.note(c, between(0, 50)...)
		if err := c.Prune(mark); err != api.OK {
			t.Fatal(mark, err)
		}
		if checked := n.check(t, c, call{kindPrune, mark, 0}); checked != int(max(0, 43-mark)) {
			t.Error(mark, checked)
		}
		for _, at := range between(mark, 60) {
			told(t, c, l, mark, at)
		}
	}
}
