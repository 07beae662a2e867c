package chain

import (
	"math/rand/v2"
	"slices"
	"testing"

	"moiety/api"
)

// plain is a chain as the chapter's words have it: all versions that didn't go, and all marks.
type plain struct {
	versions []api.Version
	marks    []int64
}

func (p *plain) Mark() int64 { return slices.Max(append([]int64{0}, p.marks...)) }

func (p *plain) Put(t, v int64) api.Errno {
	if t <= 0 || t > most {
		return api.ErrChainTime
	}
	if last, ok := p.Last(); ok && t <= last.T {
		return api.ErrChainOrder
	}
	if slices.ContainsFunc(p.marks, func(mark int64) bool { return t <= mark }) {
		return api.ErrChainOrder
	}
	if len(p.versions) >= 10000 {
		return api.ErrChainFull
	}
	p.versions = append(p.versions, api.Version{T: t, V: v})
	return api.OK
}

func (p *plain) Get(at int64) (api.Version, api.Errno) {
	if at < 0 || at > most {
		return api.Version{}, api.ErrChainTime
	}
	if slices.ContainsFunc(p.marks, func(mark int64) bool { return at < mark }) {
		return api.Version{}, api.ErrChainOld
	}
	for k := len(p.versions) - 1; k >= 0; k-- {
		if p.versions[k].T <= at {
			return p.versions[k], api.OK
		}
	}
	return api.Version{}, api.ErrChainNone
}

// Prune looks which versions count at a time from the mark on: those whose T is such a time do, then; the others, if they count at the mark.
func (p *plain) Prune(mark int64) api.Errno {
	if mark < 0 || mark > most {
		return api.ErrChainTime
	}
	p.marks = append(p.marks, mark)
	mark = p.Mark()
	atMark, _ := p.Get(mark)
	p.versions = slices.DeleteFunc(slices.Clone(p.versions), func(v api.Version) bool { return v.T < mark && v != atMark })
	return api.OK
}

func (p *plain) Last() (api.Version, bool) {
	if len(p.versions) == 0 {
		return api.Version{}, false
	}
	return p.versions[len(p.versions)-1], true
}

func (p *plain) List() []api.Version { return p.versions }

// player is what both a chain and a plain one can be asked.
type player interface {
	Put(t, v int64) api.Errno
	Get(at int64) (api.Version, api.Errno)
	Prune(mark int64) api.Errno
	Mark() int64
	Last() (api.Version, bool)
	List() []api.Version
}

// The kinds of calls.
const (
	kindPut = iota
	kindGet
	kindPrune
	kinds
)

// call is one call of any kind, by a time and a number of any kind.
type call struct {
	kind  int
	at, v int64
}

// said is what a call answers, and what the mark and the last version are behind it.
type said struct {
	v     api.Version
	err   api.Errno
	mark  int64
	last  api.Version
	there bool
}

func (k call) to(c player) (l said) {
	switch k.kind {
	case kindPut:
		l.err = c.Put(k.at, k.v)
	case kindGet:
		l.v, l.err = c.Get(k.at)
	case kindPrune:
		l.err = c.Prune(k.at)
	}
	l.mark = c.Mark()
	l.last, l.there = c.Last()
	return l
}

// someTime is a number about a time, about one of a chain's, or of some size, or one that is no time.
func someTime(r *rand.Rand, near int64, l []api.Version) int64 {
	switch n := r.IntN(30); {
	case n == 0:
		return noTimes()[r.IntN(len(noTimes()))]
	case n == 1:
		return []int64{0, 1, most - 1, most}[r.IntN(4)]
	case n < 10 && len(l) > 0:
		return l[r.IntN(len(l))].T + r.Int64N(3) - 1
	case n < 15:
		return near - r.Int64N(60)
	}
	return near + r.Int64N(10) - 3
}

// someCall is any call about a time: more versions come than marks.
func someCall(r *rand.Rand, near int64, l []api.Version) call {
	k := call{kind: []int{kindPut, kindPut, kindPut, kindGet, kindGet, kindPrune}[r.IntN(6)], at: someTime(r, near, l), v: r.Int64N(200) - 100}
	if k.kind == kindPrune {
		k.at = someTime(r, near-20, l)
	}
	if r.IntN(10) == 0 {
		k.v = someNumbers()[r.IntN(len(someNumbers()))]
	}
	return k
}

// P11.1, P11.2, P11.3: any calls, right and wrong ones, of two chains side by side, answer as the chapter's words have it, and leave them so.
func TestAnyCalls(t *testing.T) {
	r := rand.New(rand.NewPCG(11, 1))
	errs, gone := map[api.Errno]int{}, 0
	for round := range 600 {
		c, p := [2]*Chain{made(t), made(t)}, [2]*plain{{}, {}}
		base := []int64{0, 100, 1 << 40, most - 500, most - 100}[round%5]
		for step := range int64(120) {
			n := r.IntN(2)
			k := someCall(r, base+2*step, p[n].versions)
			had := len(p[n].versions)
			got, want := k.to(c[n]), k.to(p[n])
			if got != want {
				t.Fatalf("%v: %v, want %v", k, got, want)
			}
			stands(t, c[n], p[n].Mark(), p[n].versions...)
			stands(t, c[1-n], p[1-n].Mark(), p[1-n].versions...)
			errs[got.err]++
			gone += max(0, had-len(p[n].versions))
		}
	}
	for _, err := range []api.Errno{api.OK, api.ErrChainTime, api.ErrChainOrder, api.ErrChainOld, api.ErrChainNone} {
		if errs[err] < 1000 {
			t.Error("too few of", err, errs)
		}
	}
	if gone < 3000 {
		t.Error("too few went:", gone)
	}
}

// someCallNearlyFull is any call of a long chain: its mark stays near the beginning, for the most part, and its versions come one close behind the other.
func someCallNearlyFull(r *rand.Rand, p *plain) call {
	last, _ := p.Last()
	k := someCall(r, last.T+3, p.versions[:min(len(p.versions), 15)])
	switch {
	case k.kind == kindPrune && r.IntN(80) > 0:
		k.at = p.Mark() + r.Int64N(8) - 2
	case k.kind == kindGet && r.IntN(3) == 0:
		k.at = p.Mark() + r.Int64N(8) - 4
	case k.kind == kindPut && k.at == most && r.IntN(10) > 0:
		k.at = last.T + 1
	}
	return k
}

// P11.1, P11.2, P11.3: any calls of chains that are full, or all but full.
func TestAnyCallsNearlyFull(t *testing.T) {
	r := rand.New(rand.NewPCG(11, 2))
	errs := map[api.Errno]int{}
	for range 40 {
		c, l := long(t, api.MaxVersions-r.IntN(10))
		p := &plain{versions: l}
		for range 200 {
			k := someCallNearlyFull(r, p)
			got, want := k.to(c), k.to(p)
			if got != want {
				t.Fatalf("%v: %v, want %v", k, got, want)
			}
			errs[got.err]++
		}
		stands(t, c, p.Mark(), p.versions...)
	}
	for _, err := range []api.Errno{api.OK, api.ErrChainTime, api.ErrChainOrder, api.ErrChainFull, api.ErrChainOld} {
		if errs[err] < 200 {
			t.Error("too few of", err, errs)
		}
	}
}

// histories is what chains may have gone through: none of it was refused.
func histories() [][]call {
	return [][]call{
		nil,
		{{kindPut, 1, 5}},
		{{kindPut, 50, 5}},
		{{kindPut, most, 5}},
		{{kindPrune, 60, 0}},
		{{kindPrune, most, 0}},
		{{kindPut, 20, 1}, {kindPut, 30, 2}, {kindPut, 50, low}, {kindPut, 51, high}},
		{{kindPut, 20, 1}, {kindPut, 30, 2}, {kindPut, 50, 3}, {kindPrune, 10, 0}},
		{{kindPut, 20, 1}, {kindPut, 30, 2}, {kindPut, 50, 3}, {kindPrune, 35, 0}},
		{{kindPut, 20, 1}, {kindPut, 30, 2}, {kindPut, 50, 3}, {kindPrune, 90, 0}},
		{{kindPut, 20, 1}, {kindPrune, 40, 0}, {kindPut, 60, 2}, {kindPut, 61, 2}},
		{{kindPut, 20, 1}, {kindPut, most, 2}, {kindPrune, most, 0}},
	}
}

// played is a chain that went through something.
func played(t *testing.T, l []call) *Chain {
	t.Helper()
	c := made(t)
	for _, k := range l {
		if got := k.to(c); got.err != api.OK {
			t.Fatal(k, got)
		}
	}
	return c
}

// refusable is calls of which each is refused by some chain, and some by each.
func refusable() []call {
	var l []call
	for kind := range kinds {
		for _, at := range append(noTimes(), aroundAll(1, 20, 30, 40, 50, 60, 90)...) {
			l = append(l, call{kind, at, 77})
		}
	}
	return l
}

// goOnAlike holds two chains against each other, by what they answer from now on.
func goOnAlike(t *testing.T, a, b *Chain) {
	t.Helper()
	for _, k := range []call{
		{kindGet, 0, 0}, {kindGet, 1, 0}, {kindGet, 20, 0}, {kindGet, 34, 0}, {kindGet, 35, 0}, {kindGet, 90, 0}, {kindGet, most, 0}, {kindPrune, 25, 0}, {kindPut, 2, 1},
		{kindPut, 55, 2}, {kindPut, 95, 3}, {kindPut, 96, 4}, {kindGet, 94, 0}, {kindPrune, 95, 0}, {kindGet, 94, 0}, {kindPut, most, 5}, {kindGet, most, 0}, {kindPrune, most, 0},
	} {
		got, want := k.to(a), k.to(b)
		if got != want {
			t.Errorf("%v = %v, want %v", k, got, want)
		}
		stands(t, a, b.Mark(), b.List()...)
	}
}

// P11.1, P11.2, P11.3: a call that is refused leaves the chain as it was: it is as one that never was asked, and goes on as that does.
func TestRefusedCallsChangeNothing(t *testing.T) {
	for _, history := range histories() {
		asked := 0
		for _, k := range refusable() {
			a, b := played(t, history), played(t, history)
			got := k.to(a)
			if got.err == api.OK {
				continue
			}
			asked++
			if got.v != (api.Version{}) {
				t.Errorf("%v, then %v: %v", history, k, got)
			}
			stands(t, a, b.Mark(), b.List()...)
			goOnAlike(t, a, b)
		}
		if asked < 3*len(noTimes()) {
			t.Error("too few", asked)
		}
	}
}

// fillUp tells a chain of versions till it is full.
func fillUp(t *testing.T, c *Chain) {
	t.Helper()
	for last, _ := c.Last(); ; last, _ = c.Last() {
		switch err := c.Put(last.T+apart, 9); err {
		case api.OK:
		case api.ErrChainFull:
			return
		default:
			t.Fatal(last, err)
		}
	}
}

// P11.1, P11.2, P11.3: so does a full chain that refuses, also one that was pruned since, and is full again.
func TestRefusedCallsOfAFullChain(t *testing.T) {
	a, _ := long(t, api.MaxVersions)
	b, _ := long(t, api.MaxVersions)
	errs := map[api.Errno]int{}
	for _, mark := range []int64{0, stampAt(1), stampAt(2), stampAt(5) - 1} {
		for _, c := range []*Chain{a, b} {
			c.Prune(mark)
			fillUp(t, c)
		}
		last, _ := a.Last()
		for _, k := range append(refusable(), call{kindPut, last.T, 1}, call{kindPut, last.T + 1, 1}) {
			if k.kind == kindPrune && k.at >= 0 && k.at <= most {
				continue
			}
			errs[k.to(a).err]++
		}
		stands(t, a, b.Mark(), b.List()...)
	}
	for _, err := range []api.Errno{api.ErrChainTime, api.ErrChainOrder, api.ErrChainFull, api.ErrChainOld, api.ErrChainNone} {
		if errs[err] == 0 {
			t.Error("none of", err, errs)
		}
	}
	goOnAlike(t, a, b)
}

// P1: every call answers, at all arguments, and beside an error all else is nought.
func TestAllAnswer(t *testing.T) {
	for _, history := range histories() {
		for _, at := range someNumbers() {
			for _, v := range someNumbers() {
				for kind := range kinds {
					c := played(t, history)
					got := call{kind, at, v}.to(c)
					if got.err != api.OK && got.v != (api.Version{}) || !got.there && got.last != (api.Version{}) {
						t.Errorf("%v, then %d by %d, %d: %v", history, kind, at, v, got)
					}
					if got.there != (len(c.List()) > 0) || got.mark < 0 || got.mark > most {
						t.Errorf("%v, then %d by %d, %d: %v, %v", history, kind, at, v, got, c.List())
					}
				}
			}
		}
	}
}
