package chain

import (
	"math"
	"slices"
	"testing"

	"moiety/api"
)

const (
	most = int64(api.MaxTime)
	low  = int64(math.MinInt64)
	high = int64(math.MaxInt64)
)

// noTimes is numbers that are no times: those next to times and the ends among them.
func noTimes() []int64 {
	return []int64{-1, -2, -1000, -most, most + 1, most + 2, 2 * most, 1 << 62, -1 << 62, low, low + 1, high - 1, high}
}

// noStamps is numbers that are no stamps: 0 is a time, but no stamp.
func noStamps() []int64 { return append(noTimes(), 0) }

// someNumbers is numbers of any kind, both ends among them.
func someNumbers() []int64 { return append(noTimes(), 0, 1, 100, most-1, most) }

// of is versions, each by its T and its V.
func of(l ...int64) []api.Version {
	var all []api.Version
	for k := 0; k < len(l); k += 2 {
		all = append(all, api.Version{T: l[k], V: l[k+1]})
	}
	return all
}

// numbered is versions of these stamps, each with a V of its own.
func numbered(stamps ...int64) []api.Version {
	var all []api.Version
	for k, t := range stamps {
		all = append(all, api.Version{T: t, V: int64(-100 * k)})
	}
	return all
}

// made is a new chain.
func made(t *testing.T) *Chain {
	t.Helper()
	c := New()
	if c == nil {
		t.Fatal("no chain")
	}
	return c
}

// having is a chain that was told of some versions, and pruned by a mark then.
func having(t *testing.T, mark int64, l ...api.Version) *Chain {
	t.Helper()
	c := made(t)
	for _, v := range l {
		if err := c.Put(v.T, v.V); err != api.OK {
			t.Fatal(v, err)
		}
	}
	if err := c.Prune(mark); err != api.OK {
		t.Fatal(mark, err)
	}
	return c
}

// few is the first ones of versions, to be shown.
func few(l []api.Version) []api.Version { return l[:min(len(l), 20)] }

// stands holds all that a chain tells, whatever time it is asked of, against what it is to be.
func stands(t *testing.T, c *Chain, mark int64, l ...api.Version) {
	t.Helper()
	if got := c.Mark(); got != mark {
		t.Errorf("Mark() = %d, want %d", got, mark)
	}
	if got := c.List(); !slices.Equal(got, l) {
		t.Errorf("List() is %d versions, %v, want %d, %v", len(got), few(got), len(l), few(l))
	}
	want, there := api.Version{}, len(l) > 0
	if there {
		want = l[len(l)-1]
	}
	if got, ok := c.Last(); got != want || ok != there {
		t.Errorf("Last() = %v, %v, want %v, %v", got, ok, want, there)
	}
}

// put tells a chain of a version, and holds the answer, and how the chain stands behind it, against what they are to be.
func put(t *testing.T, c *Chain, at, v int64, want api.Errno) {
	t.Helper()
	mark, l := c.Mark(), c.List()
	if want == api.OK {
		l = append(l, api.Version{T: at, V: v})
	}
	if err := c.Put(at, v); err != want {
		t.Errorf("Put(%d, %d) = %d, want %d", at, v, err, want)
	}
	stands(t, c, mark, l...)
}

// get holds the version that counts at a time against what it is to be; the chain stands as it did.
func get(t *testing.T, c *Chain, at int64, want api.Version) {
	t.Helper()
	mark, l := c.Mark(), c.List()
	if got, err := c.Get(at); got != want || err != api.OK {
		t.Errorf("Get(%d) = %v, %d, want %v", at, got, err, want)
	}
	stands(t, c, mark, l...)
}

// none asks for a version that isn't told; the chain stands as it did.
func none(t *testing.T, c *Chain, at int64, want api.Errno) {
	t.Helper()
	mark, l := c.Mark(), c.List()
	if got, err := c.Get(at); got != (api.Version{}) || err != want {
		t.Errorf("Get(%d) = %v, %d, want %d", at, got, err, want)
	}
	stands(t, c, mark, l...)
}

// prune prunes a chain, of which so many versions are to go, and holds the mark, and what is left, against what they are to be.
func prune(t *testing.T, c *Chain, mark int64, gone int) {
	t.Helper()
	was, l := c.Mark(), c.List()
	if err := c.Prune(mark); err != api.OK {
		t.Errorf("Prune(%d) = %d", mark, err)
	}
	stands(t, c, max(was, mark), l[gone:]...)
}

// refused is a mark by which a chain isn't pruned; it stands as it did.
func refused(t *testing.T, c *Chain, mark int64) {
	t.Helper()
	was, l := c.Mark(), c.List()
	if err := c.Prune(mark); err != api.ErrChainTime {
		t.Errorf("Prune(%d) = %d", mark, err)
	}
	stands(t, c, was, l...)
}

// P11.1, P11.2, P11.3: the chapter's examples.
func TestExamples(t *testing.T) {
	c := made(t)
	put(t, c, 5, 100, api.OK)
	put(t, c, 9, 80, api.OK)
	put(t, c, 9, 1, api.ErrChainOrder)
	none(t, c, 4, api.ErrChainNone)
	five, nine := api.Version{T: 5, V: 100}, api.Version{T: 9, V: 80}
	get(t, c, 5, five)
	get(t, c, 8, five)
	get(t, c, 9, nine)
	prune(t, c, 8, 0)
	stands(t, c, 8, five, nine)
	prune(t, c, 9, 1)
	stands(t, c, 9, nine)
	none(t, c, 8, api.ErrChainOld)
}

// P11.1, P11.2: a new chain has no version, and its mark is 0.
func TestNew(t *testing.T) {
	stands(t, made(t), 0)
	for _, at := range []int64{0, 1, 2, 1000, most - 1, most} {
		none(t, made(t), at, api.ErrChainNone)
	}
	for _, at := range noTimes() {
		none(t, made(t), at, api.ErrChainTime)
	}
}

// P11.1: the first version may be of any stamp, and of no other number.
func TestPutFirst(t *testing.T) {
	for _, at := range []int64{1, 2, 7, 1000, 1 << 40, most - 1, most} {
		put(t, made(t), at, 3, api.OK)
	}
	for _, at := range noStamps() {
		put(t, made(t), at, 3, api.ErrChainTime)
	}
}

// P11.1: a version has any number, which is told as it was put; so are many that have alike ones.
func TestPutAnyNumber(t *testing.T) {
	c := made(t)
	var l []api.Version
	for k, v := range append(someNumbers(), someNumbers()...) {
		put(t, made(t), 5, v, api.OK)
		put(t, c, int64(3+2*k), v, api.OK)
		l = append(l, api.Version{T: int64(3 + 2*k), V: v})
	}
	stands(t, c, 0, l...)
	for k, v := range l {
		get(t, c, int64(3+2*k), v)
		get(t, c, int64(4+2*k), v)
	}
}

// P11.1: what isn't above the last version's T is out of order, in chains with one version and with many, whatever its number is.
func TestPutBehindLast(t *testing.T) {
	for _, l := range [][]api.Version{numbered(1), numbered(50), numbered(1, 50), numbered(10, 20, 30, 49, 50), numbered(most), numbered(1, most-1, most)} {
		last := l[len(l)-1]
		for _, at := range []int64{1, 2, 10, 15, 20, 48, 49, 50, last.T - 1, last.T, 51, 52, 1000, most, last.T + 1} {
			for _, v := range []int64{last.V, 7, low, high} {
				want := api.OK
				switch {
				case at < 1 || at > most:
					want = api.ErrChainTime
				case at <= last.T:
					want = api.ErrChainOrder
				}
				put(t, having(t, 0, l...), at, v, want)
			}
		}
	}
}

// P11.1: what isn't above the mark is out of order, in chains with no version, one and many, wherever the last version's T is.
func TestPutBehindMark(t *testing.T) {
	for _, l := range [][]api.Version{nil, numbered(60), numbered(3), numbered(3, 60), numbered(3, 59, 60, 61), numbered(3, 9, 27, 59), numbered(most - 1)} {
		for _, mark := range []int64{0, 1, 2, 3, 30, 58, 59, 60, 61, 62, 100, most - 1, most} {
			above := mark
			if len(l) > 0 {
				above = max(mark, l[len(l)-1].T)
			}
			for _, at := range []int64{above - 1, above, mark - 1, mark, 1} {
				if at >= 1 && at <= above {
					put(t, having(t, mark, l...), at, 5, api.ErrChainOrder)
				}
			}
			for _, at := range []int64{above + 1, above + 2, most} {
				if at > above && at <= most {
					put(t, having(t, mark, l...), at, 5, api.OK)
				}
			}
		}
	}
}

// P11.1: behind a version at MaxTime there is none, nor behind a mark there.
func TestPutBehindMaxTime(t *testing.T) {
	for _, c := range []*Chain{having(t, 0, numbered(most)...), having(t, most, numbered(4, most)...), having(t, most), having(t, most, numbered(4)...)} {
		put(t, c, most, 1, api.ErrChainOrder)
		put(t, c, most-1, 1, api.ErrChainOrder)
		put(t, c, 1, 1, api.ErrChainOrder)
		for _, at := range noStamps() {
			put(t, c, at, 1, api.ErrChainTime)
		}
	}
}

// P11.1: what is no stamp is told first, in chains with no version, one and many, whatever their mark is.
func TestPutNoStamp(t *testing.T) {
	for _, l := range [][]api.Version{nil, numbered(1), numbered(70), numbered(1, 2, 70), numbered(most)} {
		for _, mark := range []int64{0, 1, 69, 70, 71, most} {
			c := having(t, mark, l...)
			for _, at := range noStamps() {
				for _, v := range []int64{0, 8, low, high} {
					put(t, c, at, v, api.ErrChainTime)
				}
			}
		}
	}
}

// aroundAll is times just below, at and just above some, and those at both ends of all times, as far as they are times.
func aroundAll(l ...int64) []int64 {
	var all []int64
	for _, t := range append(l, 0, most) {
		for _, at := range []int64{t - 1, t, t + 1} {
			if at >= 0 && at <= most {
				all = append(all, at)
			}
		}
	}
	return all
}

// stampsOf is the stamps of versions.
func stampsOf(l []api.Version) []int64 {
	var all []int64
	for _, v := range l {
		all = append(all, v.T)
	}
	return all
}

// someChains is versions of chains: none, one and many, next to each other and far apart, at both ends of all times.
func someChains() [][]api.Version {
	return [][]api.Version{
		nil, numbered(1), numbered(2), numbered(500), numbered(most - 1), numbered(most), numbered(1, 2), numbered(1, most),
		numbered(5, 9), numbered(5, 6, 7, 8, 9), numbered(10, 20, 30, 40, 50, 60), numbered(1, 2, 4, 8, 16, 32, 64, 1<<40, most-2, most),
		of(3, 7, 5, 7, 8, 7), of(3, high, 5, low, 8, 0, 9, -1),
	}
}

// countsAt is the version that counts at a time, by the chapter's words: its T isn't above that, and no later version's is.
func countsAt(l []api.Version, at int64) (api.Version, bool) {
	for k, v := range l {
		if v.T <= at && !slices.ContainsFunc(l[k+1:], func(later api.Version) bool { return later.T <= at }) {
			return v, true
		}
	}
	return api.Version{}, false
}

// told holds what a chain tells of a time against the versions that it was ever put, and its mark.
func told(t *testing.T, c *Chain, l []api.Version, mark, at int64) {
	t.Helper()
	v, ok := countsAt(l, at)
	switch {
	case at < mark:
		none(t, c, at, api.ErrChainOld)
	case !ok:
		none(t, c, at, api.ErrChainNone)
	default:
		get(t, c, at, v)
	}
}

// P11.2: the version that counts is told just below, at and just above each version's T, ahead of the first one and behind the last one.
func TestGet(t *testing.T) {
	for _, l := range someChains() {
		c := having(t, 0, l...)
		for _, at := range aroundAll(stampsOf(l)...) {
			told(t, c, l, 0, at)
		}
		for _, at := range noTimes() {
			none(t, c, at, api.ErrChainTime)
		}
	}
}

// P11.2, P11.3: just below the mark nothing is told, at it and just above it what counts; wherever the mark is.
func TestGetByMark(t *testing.T) {
	for _, l := range someChains() {
		for _, mark := range aroundAll(stampsOf(l)...) {
			c := having(t, mark, l...)
			for _, at := range aroundAll(append(stampsOf(l), mark)...) {
				told(t, c, l, mark, at)
			}
			for _, at := range noTimes() {
				none(t, c, at, api.ErrChainTime)
			}
		}
	}
}

// P11.2: what is no time is told ahead of what is below the mark, and that ahead of there being none.
func TestGetRefusedInOrder(t *testing.T) {
	c := having(t, 10)
	none(t, c, -1, api.ErrChainTime)
	none(t, c, low, api.ErrChainTime)
	none(t, c, most+1, api.ErrChainTime)
	none(t, c, 0, api.ErrChainOld)
	none(t, c, 9, api.ErrChainOld)
	none(t, c, 10, api.ErrChainNone)
	put(t, c, 15, 1, api.OK)
	none(t, c, 9, api.ErrChainOld)
	none(t, c, 10, api.ErrChainNone)
	none(t, c, 14, api.ErrChainNone)
	get(t, c, 15, api.Version{T: 15, V: 1})
}

// P11.3: a version goes if it counts at no time from the mark on: those that count at it stay, and those that come later.
func TestPrune(t *testing.T) {
	l := numbered(10, 20, 30, 31, 32)
	for _, k := range []struct {
		mark int64
		gone int
	}{
		{0, 0}, {1, 0}, {9, 0}, {10, 0}, {11, 0}, {19, 0}, {20, 1}, {21, 1}, {29, 1}, {30, 2}, {31, 3}, {32, 4}, {33, 4}, {1000, 4}, {most - 1, 4}, {most, 4},
	} {
		c := having(t, 0, l...)
		prune(t, c, k.mark, k.gone)
		prune(t, c, k.mark, 0)
		stands(t, c, k.mark, l[k.gone:]...)
	}
}

// P11.3: a chain without a version, and one with one, keep what they have by any mark.
func TestPruneFew(t *testing.T) {
	for _, l := range [][]api.Version{nil, numbered(1), numbered(50), numbered(most)} {
		for _, mark := range aroundAll(1, 50) {
			c := having(t, 0, l...)
			prune(t, c, mark, 0)
			prune(t, c, mark, 0)
			stands(t, c, mark, l...)
		}
	}
}

// P11.3: by a mark that isn't above the one that is there nothing goes, and the mark stays.
func TestPruneBack(t *testing.T) {
	for _, l := range someChains() {
		for _, mark := range aroundAll(stampsOf(l)...) {
			c := having(t, mark, l...)
			left := c.List()
			for _, back := range []int64{0, 1, mark / 2, mark - 2, mark - 1, mark} {
				if back >= 0 && back <= mark {
					prune(t, c, back, 0)
				}
			}
			stands(t, c, mark, left...)
		}
	}
}

// P11.3: by one mark behind another one goes what goes by the last one alone.
func TestPruneOnAndOn(t *testing.T) {
	for _, l := range someChains() {
		c := having(t, 0, l...)
		marks := aroundAll(stampsOf(l)...)
		slices.Sort(marks)
		for _, mark := range marks {
			if err := c.Prune(mark); err != api.OK {
				t.Fatal(mark, err)
			}
			stands(t, c, mark, having(t, mark, l...).List()...)
		}
	}
}

// P11.3: what is no time is no mark, in chains with no version, one and many, whatever their mark is.
func TestPruneRefused(t *testing.T) {
	for _, l := range someChains() {
		for _, mark := range []int64{0, 1, 30, most} {
			c := having(t, mark, l...)
			for _, bad := range noTimes() {
				refused(t, c, bad)
			}
		}
	}
}

// P11.1, P11.3: a chain goes on behind a mark: what counts there stays till a later version does, and a later mark comes.
func TestGoOnBehindMark(t *testing.T) {
	c := having(t, 50, numbered(10, 20, 30)...)
	twenty, thirty := numbered(10, 20, 30)[1], numbered(10, 20, 30)[2]
	stands(t, c, 50, thirty)
	put(t, c, 30, 1, api.ErrChainOrder)
	put(t, c, 50, 1, api.ErrChainOrder)
	put(t, c, 51, 1, api.OK)
	put(t, c, 52, 2, api.OK)
	get(t, c, 50, thirty)
	none(t, c, 49, api.ErrChainOld)
	prune(t, c, 50, 0)
	prune(t, c, 51, 1)
	none(t, c, 50, api.ErrChainOld)
	get(t, c, 51, api.Version{T: 51, V: 1})
	prune(t, c, twenty.T, 0)
	prune(t, c, most-1, 1)
	put(t, c, most, 3, api.OK)
	prune(t, c, most, 1)
	stands(t, c, most, api.Version{T: most, V: 3})
}

// P11.1, P11.2, P11.3: two chains side by side know nothing of each other.
func TestSideBySide(t *testing.T) {
	a, b := made(t), made(t)
	put(t, a, 5, 100, api.OK)
	stands(t, b, 0)
	put(t, b, 3, 7, api.OK)
	put(t, b, 4, 8, api.OK)
	stands(t, a, 0, of(5, 100)...)
	prune(t, b, 20, 1)
	stands(t, a, 0, of(5, 100)...)
	put(t, a, 6, 90, api.OK)
	stands(t, b, 20, of(4, 8)...)
	get(t, a, 5, api.Version{T: 5, V: 100})
	none(t, b, 5, api.ErrChainOld)
	get(t, b, 20, api.Version{T: 4, V: 8})
	prune(t, a, 6, 1)
	put(t, b, 21, 9, api.OK)
	stands(t, a, 6, of(6, 90)...)
	stands(t, b, 20, of(4, 8, 21, 9)...)
}
