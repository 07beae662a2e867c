package store

import (
	"math/rand/v2"
	"slices"
	"testing"

	"moiety/api"
)

// player is what both a store and a plain one can be asked.
type player interface {
	Put(t int64, l []api.Entry) api.Errno
	Close(t int64) api.Errno
	Get(key int, at int64) (api.Version, api.Errno)
	Last(key int) (api.Version, bool)
	Snap(at int64) ([]api.Entry, api.Errno)
	Prune(mark int64) api.Errno
	Closed() int64
	Mark() int64
	Size() int
}

// The kinds of calls.
const (
	kindPut = iota
	kindClose
	kindGet
	kindLast
	kindSnap
	kindPrune
	kinds
)

// call is one call of any kind, by a time, a key and entries.
type call struct {
	kind int
	at   int64
	key  int
	l    []api.Entry
}

// said is what a call answers, and what the store tells of itself behind it.
type said struct {
	v            api.Version
	there        bool
	l            []api.Entry
	err          api.Errno
	closed, mark int64
	size         int
}

func (k call) to(s player) (x said) {
	switch k.kind {
	case kindPut:
		x.err = s.Put(k.at, k.l)
	case kindClose:
		x.err = s.Close(k.at)
	case kindGet:
		x.v, x.err = s.Get(k.key, k.at)
	case kindLast:
		x.v, x.there = s.Last(k.key)
	case kindSnap:
		x.l, x.err = s.Snap(k.at)
	case kindPrune:
		x.err = s.Prune(k.at)
	}
	x.closed, x.mark, x.size = s.Closed(), s.Mark(), s.Size()
	return x
}

// like is whether two calls were answered alike.
func (x said) like(y said) bool {
	return x.v == y.v && x.there == y.there && slices.Equal(x.l, y.l) && x.err == y.err && x.closed == y.closed && x.mark == y.mark && x.size == y.size
}

// isBare is whether all else is nought beside an error, and where there is nothing.
func (x said) isBare(kind int) bool {
	if x.err != api.OK || kind == kindLast && !x.there {
		return x.v == api.Version{} && !x.there && len(x.l) == 0
	}
	return true
}

// someKey is one of few keys, for the most part, so that they meet each other.
func someKey(r *rand.Rand) int {
	switch r.IntN(40) {
	case 0:
		return noKeys()[r.IntN(len(noKeys()))]
	case 1:
		return []int{0, topKey - 1, topKey}[r.IntN(3)]
	}
	return 8 * r.IntN(8)
}

// someEntries is a few entries of keys that are unlike, for the most part, or as many as may be, or more.
func someEntries(r *rand.Rand) []api.Entry {
	switch r.IntN(60) {
	case 0:
		return nil
	case 1:
		return many(r.IntN(20), 98+r.IntN(5))
	}
	var l []api.Entry
	for range 1 + r.IntN(4) {
		e := api.Entry{Key: someKey(r), V: r.Int64N(200) - 100}
		if slices.ContainsFunc(l, func(ahead api.Entry) bool { return ahead.Key == e.Key }) && r.IntN(5) > 0 {
			continue
		}
		if r.IntN(20) == 0 {
			e.V = someNumbers()[r.IntN(len(someNumbers()))]
		}
		l = append(l, e)
	}
	return l
}

// someTime is a number near a time, or one at an end, or one that is no time.
func someTime(r *rand.Rand, near int64) int64 {
	switch r.IntN(40) {
	case 0:
		return noTimes()[r.IntN(len(noTimes()))]
	case 1:
		return []int64{0, 1, most - 1}[r.IntN(3)]
	}
	return near + r.Int64N(16) - 5
}

// someCall is any call about a time: it is closed some time behind, and pruned farther behind.
func someCall(r *rand.Rand, near int64, s player) call {
	k := call{kind: []int{kindPut, kindPut, kindPut, kindPut, kindClose, kindGet, kindLast, kindSnap, kindPrune}[r.IntN(9)], at: someTime(r, near), key: someKey(r), l: someEntries(r)}
	switch k.kind {
	case kindClose:
		k.at = someTime(r, near-8)
	case kindGet, kindSnap:
		k.at = someTime(r, []int64{near - 15, s.Closed(), s.Mark()}[r.IntN(3)])
	case kindPrune:
		k.at = someTime(r, near-25)
	}
	return k
}

// P12.1 to P12.4: any calls, right and wrong ones, of two stores side by side, answer as the chapter's words have it, and leave them so.
func TestAnyCalls(t *testing.T) {
	r := rand.New(rand.NewPCG(12, 1))
	errs, gone := map[api.Errno]int{}, 0
	for round := range 150 {
		d := [2]*pair{begun(t), begun(t)}
		base := []int64{0, 100, 1 << 40, most - 300, most - 60}[round%5]
		for step := range int64(120) {
			n := r.IntN(2)
			k := someCall(r, base+step, d[n].p)
			had := d[n].p.Size()
			got, want := k.to(d[n].s), k.to(d[n].p)
			if !got.like(want) {
				t.Fatalf("%v: %v, want %v", k, got, want)
			}
			d[0].standsAt(d[0].p.Mark(), d[0].p.Closed())
			d[1].standsAt(d[1].p.Mark(), d[1].p.Closed())
			errs[got.err]++
			gone += max(0, had-d[n].p.Size())
		}
		d[0].stands()
		d[1].stands()
	}
	for _, err := range []api.Errno{api.OK, api.ErrStoreTime, api.ErrStoreOrder, api.ErrStoreMany, api.ErrStoreKey, api.ErrStoreTwice, api.ErrStoreOld, api.ErrStoreNone, api.ErrStoreOpen} {
		if errs[err] < 30 {
			t.Error("too few of", err, errs)
		}
	}
	if gone < 1000 {
		t.Error("too few went:", gone)
	}
}

// P12.1 to P12.4: any calls of stores with keys that are full, or all but full.
func TestAnyCallsNearlyFull(t *testing.T) {
	r := rand.New(rand.NewPCG(12, 2))
	errs := map[api.Errno]int{}
	for range 10 {
		d := begun(t)
		d.long(9990+r.IntN(10), 0, 8, 16)
		near := stampAt(10000)
		for range 400 {
			k := someCall(r, near, d.p)
			near += r.Int64N(3)
			if k.kind == kindClose || k.kind == kindPrune || r.IntN(20) == 0 {
				k.at = d.p.Mark() + r.Int64N(6) - 1
			}
			got, want := k.to(d.s), k.to(d.p)
			if !got.like(want) {
				t.Fatalf("%v: %v, want %v", k, got, want)
			}
			errs[got.err]++
		}
		d.standsAt(d.longTimes()...)
	}
	for _, err := range []api.Errno{api.OK, api.ErrStoreTime, api.ErrStoreOrder, api.ErrStoreKey, api.ErrStoreFull, api.ErrStoreTwice} {
		if errs[err] < 20 {
			t.Error("too few of", err, errs)
		}
	}
}

// histories is what stores may have gone through: none of it was refused.
func histories() [][]call {
	put := func(at int64, l ...int64) call { return call{kind: kindPut, at: at, l: of(l...)} }
	up := func(at int64) call { return call{kind: kindClose, at: at} }
	mark := func(at int64) call { return call{kind: kindPrune, at: at} }
	return [][]call{
		nil,
		{put(1, 1, 5)},
		{put(50)},
		{put(most, 1, 5)},
		{up(60)},
		{up(60), mark(60)},
		{up(most), mark(most)},
		{put(20, 1, 1), put(30, 1, 2, 2, 2), put(50, 2, low), put(51, 1, high, 8191, 0)},
		{put(20, 1, 1), put(30, 2, 2), put(50, 1, 3), up(40)},
		{put(20, 1, 1), put(30, 2, 2, 1, 2), put(50, 1, 3), up(50), mark(35)},
		{put(20, 1, 1), put(30, 2, 2, 1, 2), put(50, 1, 3), up(90), mark(90)},
		{put(60, 1, 1), put(20, 2, 1), up(40), mark(30), put(50, 2, 2), put(61, 1, 2)},
		{put(20, 1, 1), put(most, 1, 2), up(most), mark(most)},
	}
}

// played is a store that went through something.
func played(t *testing.T, l []call) *Store {
	t.Helper()
	s := made(t)
	for _, k := range l {
		if got := k.to(s); got.err != api.OK {
			t.Fatal(k, got)
		}
	}
	return s
}

// refusable is calls of which each is refused by some store, and some by each.
func refusable() []call {
	var l []call
	for _, at := range append(noTimes(), aroundAll(1, 20, 30, 40, 50, 60, 90)...) {
		for _, what := range [][]api.Entry{of(1, 77), of(2, 77, 1, 77), of(8, 1, 2, 77), of(5, 1, 6, 1, 5, 1), of(1, 1, 7, 7, 1, 1), of(9, 1, 8192, 1), of(9, 1, -1, 1, 1, 1), many(1, 100), many(0, 101)} {
			l = append(l, call{kind: kindPut, at: at, l: what})
		}
		for _, key := range []int{-1, 0, 1, 2, 8191, 8192} {
			l = append(l, call{kind: kindGet, at: at, key: key})
		}
		l = append(l, call{kind: kindClose, at: at}, call{kind: kindSnap, at: at}, call{kind: kindPrune, at: at})
	}
	return l
}

// onward is calls by which all that a store has is told, and how it goes on.
func onward() []call {
	l := []call{
		{kind: kindSnap, at: 0}, {kind: kindSnap, at: 20}, {kind: kindSnap, at: 35}, {kind: kindPrune, at: 25}, {kind: kindPut, at: 2, l: of(3, 1)}, {kind: kindPut, at: 55, l: of(1, 2, 2, 2)},
		{kind: kindPut, at: 95, l: of(2, 3)}, {kind: kindClose, at: 96}, {kind: kindSnap, at: 94}, {kind: kindSnap, at: 95}, {kind: kindPrune, at: 50}, {kind: kindPut, at: 97, l: of(1, 4, 5, 4, 9, 4)},
		{kind: kindPut, at: most, l: of(3, 5)}, {kind: kindClose, at: most},
	}
	for _, at := range aroundAll(1, 20, 30, 40, 50, 55, 60, 90, 95, 97) {
		l = append(l, call{kind: kindSnap, at: at}, call{kind: kindGet, at: at, key: 1}, call{kind: kindGet, at: at, key: 2}, call{kind: kindGet, at: at, key: 8191})
	}
	for key := range 105 {
		l = append(l, call{kind: kindLast, key: key})
	}
	return append(l, call{kind: kindLast, key: 8191}, call{kind: kindPrune, at: most}, call{kind: kindSnap, at: most})
}

// P12.1 to P12.4: a call that is refused leaves the store as it was: it is as one that never was asked, and goes on as that does.
func TestRefusedCallsChangeNothing(t *testing.T) {
	calls, on := refusable(), onward()
	for _, history := range histories() {
		asked, want := map[int]int{}, []said{}
		b := played(t, history)
		for _, k := range on {
			want = append(want, k.to(b))
		}
		for _, k := range calls {
			a := played(t, history)
			got := k.to(a)
			if got.err == api.OK {
				continue
			}
			asked[k.kind]++
			if !got.isBare(k.kind) {
				t.Errorf("%v, then %v: %v", history, k, got)
			}
			for n, next := range on {
				if got := next.to(a); !got.like(want[n]) {
					t.Errorf("%v, then %v, then %v = %v, want %v", history, k, next, got, want[n])
				}
			}
		}
		for _, kind := range []int{kindPut, kindClose, kindGet, kindSnap, kindPrune} {
			if asked[kind] < len(noTimes()) {
				t.Error("too few of", kind, asked)
			}
		}
	}
}

// P1: every call answers, at all arguments, and beside an error all else is nought.
func TestAllAnswer(t *testing.T) {
	lists := [][]api.Entry{nil, of(1, low), of(1, high, 1, high), of(0, 0, 8191, 1), many(-1, 3), many(0, 100), many(8150, 101)}
	for _, key := range noKeys() {
		lists = append(lists, []api.Entry{{Key: key, V: high}})
	}
	for _, history := range histories() {
		for _, at := range append(someNumbers(), 30, 50) {
			for _, l := range lists {
				call{kind: kindPut, at: at, l: l}.to(played(t, history))
			}
			for _, key := range append(noKeys(), 0, 1, 2, 8190, 8191) {
				for kind := range kinds {
					got := call{kind: kind, at: at, key: key}.to(played(t, history))
					if !got.isBare(kind) || got.closed < got.mark || got.mark < 0 || got.closed > most || got.size < 0 {
						t.Errorf("%v, then %d by %d, %d: %v", history, kind, at, key, got)
					}
				}
			}
		}
	}
}
