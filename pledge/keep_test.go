package pledge

import (
	"math/rand/v2"
	"slices"
	"testing"

	"moiety/api"
)

// watched is a pledge, and what was seen of it from outside: each side's votes that were taken, and its fate, once it had one.
type watched struct {
	*testing.T
	p    *Pledge
	said [2][]call
	is   api.Fate
	at   int64
}

// ask asks a call, and holds the pledge's fate behind it against what follows from all that was seen.
func (w *watched) ask(k call) {
	w.Helper()
	err := k.ask(w.p)
	if k.kind == kindVote && err == api.OK {
		side := slices.Index(sides(), k.pays)
		w.said[side] = append(w.said[side], k)
	}
	is, at := w.p.Fate()
	switch {
	case is != api.FateNone && is != api.FateCommitted && is != api.FateDropped:
		w.Fatalf("behind %v: its fate is %d", k, is)
	case w.is != api.FateNone && (is != w.is || at != w.at):
		w.Fatalf("behind %v: its fate was %d at %d, is %d at %d", k, w.is, w.at, is, at)
	case is != api.FateCommitted && at != 0:
		w.Fatalf("behind %v: its fate is %d at %d", k, is, at)
	}
	w.is, w.at = is, at
	if is == api.FateCommitted {
		w.isAgreed(k)
	}
}

// isAgreed holds that what is committed has two yeses, by stamps that aren't above its own, and that no side said anything else.
func (w *watched) isAgreed(k call) {
	w.Helper()
	for n, l := range w.said {
		if len(l) == 0 {
			w.Fatalf("behind %v: committed at %d, and side %d said nothing", k, w.at, n)
		}
		for _, v := range l {
			if !v.yes || v.t != l[0].t || v.t > w.at || v.t < 1 {
				w.Fatalf("behind %v: committed at %d, and side %d said %v", k, w.at, n, v)
			}
		}
	}
	if w.at > end {
		w.Fatalf("behind %v: committed at %d", k, w.at)
	}
}

// P16.5: in all plays of five of a few calls what was decided stays, and what was committed has two yeses with stamps that aren't above its own.
func TestOneFateInAllShortPlays(t *testing.T) {
	ends := map[api.Fate]int{}
	plays(fewCalls(), 5, func(play []call) {
		w := &watched{T: t, p: made(t, usual())}
		for _, k := range play {
			w.ask(k)
		}
		ends[w.is]++
	})
	if ends[api.FateNone] < 1000 || ends[api.FateCommitted] < 500 || ends[api.FateDropped] < 1000 {
		t.Error("too few", ends)
	}
}

// P16.5: and so in plays of any calls, at both ends of all times and between.
func TestOneFate(t *testing.T) {
	r := rand.New(rand.NewPCG(16, 2))
	ends := map[api.Fate]int{}
	for round := range 5000 {
		w := &watched{T: t, p: made(t, someTransfer(r))}
		for range 60 {
			w.ask(someCall(r, w.p, bases()[round%len(bases())]))
		}
		ends[w.is]++
	}
	if ends[api.FateCommitted] < 500 || ends[api.FateDropped] < 500 {
		t.Error("too few", ends)
	}
}

// votes is a side's few votes.
func votes(side bool) []call {
	return []call{{kind: kindVote, pays: side, t: 9}, {kind: kindVote, pays: side, yes: yes, t: 4}, {kind: kindVote, pays: side, yes: yes, t: 5}, {kind: kindVote, pays: side, yes: yes}}
}

// merges goes over all ways in which two sides' votes may come, each side's own ones in their order.
func merges(a, b []call, each func(l []call)) {
	var from func(a, b, l []call)
	from = func(a, b, l []call) {
		if len(a)+len(b) == 0 {
			each(l)
			return
		}
		if len(a) > 0 {
			from(a[1:], b, append(slices.Clip(l), a[0]))
		}
		if len(b) > 0 {
			from(a, b[1:], append(slices.Clip(l), b[0]))
		}
	}
	from(a, b, nil)
}

// comesTo is what a pledge tells behind some votes, and what it answers and tells then, if it is committed at some stamps, told the same votes again, and aborted.
func comesTo(t *testing.T, l []call) (all []telling, errs []api.Errno) {
	t.Helper()
	for _, at := range []int64{3, 4, 5, 6, end} {
		p := made(t, usual())
		for _, k := range l {
			k.ask(p)
		}
		all = append(all, told(p))
		errs = append(errs, p.Commit(at))
		all = append(all, told(p))
		for _, side := range sides() {
			for _, v := range votes(side) {
				errs = append(errs, v.ask(p))
			}
		}
		errs = append(errs, p.Abort())
		all = append(all, told(p))
	}
	return all, errs
}

// alike holds what some votes come to against what others do.
func alike(t *testing.T, l, m []call) {
	t.Helper()
	all, errs := comesTo(t, l)
	others, otherErrs := comesTo(t, m)
	if !slices.EqualFunc(all, others, telling.like) || !slices.Equal(errs, otherErrs) {
		t.Fatalf("%v comes to %v, %v\n%v to %v, %v", l, all, errs, m, others, otherErrs)
	}
}

// P16.5: in which order sides vote doesn't matter: any three votes of each, also such as are refused, come to the same in all orders in which the sides' may come.
func TestOrderOfSidesDoesntMatter(t *testing.T) {
	for size := range 4 {
		plays(votes(pays), size, func(a []call) {
			a = slices.Clone(a)
			plays(votes(gets), 2, func(b []call) {
				merges(a, b, func(l []call) { alike(t, l, slices.Concat(a, b)) })
			})
		})
	}
}

// P16.5: nor does it matter how often they vote: each of any votes said once more, at any place behind itself, comes to the same.
func TestHowOftenDoesntMatter(t *testing.T) {
	for size := 1; size <= 4; size++ {
		plays(append(votes(pays), votes(gets)...), size, func(play []call) {
			for k := range play {
				for behind := k + 1; behind <= len(play); behind++ {
					alike(t, play, slices.Insert(slices.Clone(play), behind, play[k]))
				}
			}
		})
	}
}

// P16.5: of one vote of each side, said any number of times, in any order, all come to the same.
func TestVotesAnyHow(t *testing.T) {
	r := rand.New(rand.NewPCG(16, 3))
	for range 3000 {
		a, b := oneOf(r, someVotes(pays)...), oneOf(r, someVotes(gets)...)
		l := []call{a, b}
		for range r.IntN(8) {
			l = append(l, oneOf(r, a, b))
		}
		r.Shuffle(len(l), func(i, k int) { l[i], l[k] = l[k], l[i] })
		alike(t, l, []call{a, b})
	}
}
