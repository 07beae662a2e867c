package pledge

import (
	"math/rand/v2"
	"slices"
	"testing"

	"moiety/api"
)

// player is what both a pledge and a plain one can be asked.
type player interface {
	Part(pays bool) api.Part
	Vote(pays, yes bool, t int64) api.Errno
	Ready() (int64, bool)
	Commit(t int64) api.Errno
	Abort() api.Errno
	Fate() (api.Fate, int64)
	Ack(pays bool) api.Errno
	Left() []bool
	Transfer() api.Transfer
}

// telling is all that a pledge tells.
type telling struct {
	is           api.Fate
	at, since    int64
	isReady      bool
	left         []bool
	x            api.Transfer
	payer, payee api.Part
}

// told is what a pledge tells now.
func told(p player) (x telling) {
	x.is, x.at = p.Fate()
	x.since, x.isReady = p.Ready()
	x.left, x.x, x.payer, x.payee = p.Left(), p.Transfer(), p.Part(true), p.Part(false)
	return x
}

// like is whether the same is told.
func (x telling) like(y telling) bool {
	isLeft := slices.Equal(x.left, y.left)
	return isLeft && x.is == y.is && x.at == y.at && x.since == y.since && x.isReady == y.isReady && x.x == y.x && x.payer == y.payer && x.payee == y.payee
}

// The kinds of calls that change something.
const (
	kindVote = iota
	kindCommit
	kindAbort
	kindAck
	kinds
)

// call is one call of any kind.
type call struct {
	kind      int
	pays, yes bool
	t         int64
}

func (k call) ask(p player) api.Errno {
	switch k.kind {
	case kindVote:
		return p.Vote(k.pays, k.yes, k.t)
	case kindCommit:
		return p.Commit(k.t)
	case kindAbort:
		return p.Abort()
	}
	return p.Ack(k.pays)
}

// sides is both sides.
func sides() []bool { return []bool{pays, gets} }

// oneOf is one of some, by chance.
func oneOf[T any](r *rand.Rand, l ...T) T { return l[r.IntN(len(l))] }

// someStamp is one of few stamps near a time, for the most part, so that they meet each other; or one at an end, or one that is none.
func someStamp(r *rand.Rand, near int64) int64 {
	switch r.IntN(30) {
	case 0:
		return oneOf(r, noStamps()...)
	case 1:
		return oneOf(r, someStamps()...)
	}
	return near + r.Int64N(4)
}

// someCall is any call: what a pledge is told, or told again.
func someCall(r *rand.Rand, p player, near int64) call {
	k := call{kind: oneOf(r, kindVote, kindVote, kindVote, kindVote, kindCommit, kindCommit, kindCommit, kindAck, kindAck), pays: r.IntN(2) == 0, yes: r.IntN(10) > 0, t: someStamp(r, near)}
	if r.IntN(40) == 0 {
		k.kind = kindAbort
	}
	is, at := p.Fate()
	since, isReady := p.Ready()
	switch {
	case k.kind != kindCommit || r.IntN(2) == 0:
	case is == api.FateCommitted:
		k.t = at
	case isReady:
		k.t = since + r.Int64N(3) - 1
	}
	return k
}

// bases is times about which plays go: at both ends of all times and between.
func bases() []int64 { return []int64{-1, 1, 100, 1 << 40, end - 3, end - 1} }

// someTransfer is any transfer, as often as not one at the ends.
func someTransfer(r *rand.Rand) api.Transfer {
	from := oneOf(r, 0, 1, topmost, r.IntN(topmost))
	return api.Transfer{ID: oneOf(r, 1, last, 1+r.IntN(last)), From: from, To: (from + 1 + r.IntN(topmost)) % (topmost + 1), N: oneOf(r, 1, most, 1+r.Int64N(most))}
}

// counts is how often calls of each kind were answered by each error.
type counts [kinds]map[api.Errno]int

func newCounts() (c counts) {
	for kind := range c {
		c[kind] = map[api.Errno]int{}
	}
	return c
}

// enough holds that there were so many of all that there may be.
func (c counts) enough(t *testing.T, least int) {
	t.Helper()
	for kind, want := range [kinds][]api.Errno{
		kindVote:   {api.OK, api.ErrPledgeTime, api.ErrPledgeTwice},
		kindCommit: {api.OK, api.ErrPledgeTime, api.ErrPledgeFate, api.ErrPledgeVotes, api.ErrPledgeOrder},
		kindAbort:  {api.OK, api.ErrPledgeFate},
		kindAck:    {api.OK, api.ErrPledgeFate},
	} {
		for _, err := range want {
			if c[kind][err] < least {
				t.Error("too few of", kind, err, c[kind])
			}
		}
	}
}

// P16.1 to P16.4: any calls, right and wrong ones, of two pledges side by side, are answered as the chapter's words have it, and what one is told changes nothing in the other.
func TestAnyCalls(t *testing.T) {
	r := rand.New(rand.NewPCG(16, 1))
	count := newCounts()
	for round := range 3000 {
		var pledges [2]*Pledge
		var plains [2]*plain
		for n := range pledges {
			x := someTransfer(r)
			pledges[n], plains[n] = made(t, x), newPlain(x)
		}
		for range 40 {
			n := r.IntN(2)
			k := someCall(r, plains[n], bases()[round%len(bases())])
			got, want := k.ask(pledges[n]), k.ask(plains[n])
			if got != want {
				t.Fatalf("%v = %d, want %d", k, got, want)
			}
			count[k.kind][got]++
			for n := range pledges {
				if got, want := told(pledges[n]), told(plains[n]); !got.like(want) {
					t.Fatalf("behind %v it tells %v, want %v", k, got, want)
				}
			}
		}
	}
	count.enough(t, 300)
}

// fewCalls is calls of every kind, by few stamps: those of which all plays are played.
func fewCalls() []call {
	l := []call{{kind: kindAbort}, {kind: kindCommit, t: 4}, {kind: kindCommit, t: 5}, {kind: kindCommit, t: 6}, {kind: kindCommit}}
	for _, side := range sides() {
		l = append(l, call{kind: kindAck, pays: side}, call{kind: kindVote, pays: side, t: 9}, call{kind: kindVote, pays: side, yes: yes})
		for _, t := range []int64{4, 5} {
			l = append(l, call{kind: kindVote, pays: side, yes: yes, t: t})
		}
	}
	return l
}

// plays goes over all plays of so many calls.
func plays(l []call, n int, each func(play []call)) {
	play := make([]call, n)
	var from func(k int)
	from = func(k int) {
		if k == n {
			each(play)
			return
		}
		for _, play[k] = range l {
			from(k + 1)
		}
	}
	from(0)
}

// P16.1 to P16.4: all plays of five of a few calls are answered as the chapter's words have it.
func TestAllShortPlays(t *testing.T) {
	count := newCounts()
	plays(fewCalls(), 5, func(play []call) {
		p, w := made(t, usual()), newPlain(usual())
		for _, k := range play {
			got, want := k.ask(p), k.ask(w)
			if got != want {
				t.Fatalf("in %v: %v = %d, want %d", play, k, got, want)
			}
			count[k.kind][got]++
		}
		if got, want := told(p), told(w); !got.like(want) {
			t.Fatalf("behind %v it tells %v, want %v", play, got, want)
		}
	})
	count.enough(t, 10)
}
