package pledge

import (
	"testing"

	"moiety/api"
)

// P16.2: a yes has a stamp, at both ends of these too; each side's is its own.
func TestVoteYes(t *testing.T) {
	for _, at := range someStamps() {
		for _, side := range sides() {
			d := begun(t)
			d.vote(side, yes, at, api.OK)
			d.fate(api.FateNone, 0)
			d.notReady()
			d.left(!side)
			d.vote(!side, yes, 3, api.OK)
			d.ready(max(at, 3))
			d.left()
			d.fate(api.FateNone, 0)
		}
	}
}

// P16.2: what is no stamp makes no yes, whatever was said, and decided, ahead of it.
func TestVoteYesNoStamp(t *testing.T) {
	for _, at := range noStamps() {
		for _, side := range sides() {
			for _, d := range []*pair{begun(t), voted(t, 5, 8), dropped(t), committed(t, 9)} {
				d.vote(side, yes, at, api.ErrPledgeTime)
			}
			d := begun(t)
			d.vote(side, no, 5, api.OK)
			d.vote(side, yes, at, api.ErrPledgeTime) // though it said no
			d.vote(!side, yes, at, api.ErrPledgeTime)
			d.left(true, false)
			d.fate(api.FateDropped, 0)
		}
	}
}

// P16.2: a no is one by any stamp, and drops what isn't decided, whatever the other side said.
func TestVoteNo(t *testing.T) {
	for _, at := range append(noStamps(), someStamps()...) {
		for _, side := range sides() {
			d := begun(t)
			d.vote(side, no, at, api.OK)
			d.fate(api.FateDropped, 0)
			d.left(true, false) // both are to be told
			d = begun(t)
			d.vote(!side, yes, 5, api.OK)
			d.vote(side, no, at, api.OK)
			d.fate(api.FateDropped, 0)
			d.notReady()
			d = begun(t)
			d.vote(!side, no, 5, api.OK)
			d.vote(side, no, at, api.OK)
			d.fate(api.FateDropped, 0)
		}
	}
}

// someVotes is a side's votes: a no by some stamps, and a yes by others.
func someVotes(side bool) []call {
	var l []call
	for _, t := range []int64{low, 0, 5, end, end + 1} {
		l = append(l, call{kind: kindVote, pays: side, yes: no, t: t})
	}
	for _, t := range []int64{1, 5, 6, end} {
		l = append(l, call{kind: kindVote, pays: side, yes: yes, t: t})
	}
	return l
}

// P16.2: a side may say the same again: a yes with its stamp, a no with any; nothing else: no behind a yes, no yes behind a no, none with another stamp; ahead of what is decided, and behind it.
func TestVoteTwice(t *testing.T) {
	for _, side := range sides() {
		for _, first := range someVotes(side) {
			for _, second := range someVotes(side) {
				want := api.ErrPledgeTwice
				if first.yes == second.yes && (first.t == second.t || !first.yes) {
					want = api.OK
				}
				for _, begin := range []func(*pair){
					func(d *pair) {},
					func(d *pair) { d.abort(api.OK) },
					func(d *pair) { d.vote(!side, yes, 5, api.OK) },
					func(d *pair) { d.vote(!side, no, 5, api.OK) },
				} {
					d := begun(t)
					begin(d)
					d.vote(side, first.yes, first.t, api.OK)
					was := told(d.p)
					for range 2 {
						d.vote(side, second.yes, second.t, want)
						d.vote(side, first.yes, first.t, api.OK)
					}
					if got := told(d.p); !got.like(was) {
						t.Errorf("%v behind %v: it tells %v, told %v", second, first, got, was)
					}
				}
			}
		}
	}
}

// P16.2: what one side said hinders the other one in nothing.
func TestVotesOfBothSides(t *testing.T) {
	for _, side := range sides() {
		for _, first := range someVotes(side) {
			for _, second := range someVotes(!side) {
				d := begun(t)
				d.vote(side, first.yes, first.t, api.OK)
				d.vote(!side, second.yes, second.t, api.OK)
				if first.yes && second.yes {
					d.fate(api.FateNone, 0)
					d.ready(max(first.t, second.t))
					d.left()
					continue
				}
				d.fate(api.FateDropped, 0)
				d.notReady()
				d.left(true, false)
			}
		}
	}
}

// P16.2: behind what is decided the same is said again, and nothing else; and a no changes nothing that is decided.
func TestVoteBehindWhatIsDecided(t *testing.T) {
	d := committed(t, 9)
	for _, k := range []struct {
		pays, yes bool
		t         int64
		want      api.Errno
	}{
		{pays, yes, 5, api.OK}, {gets, yes, 8, api.OK}, {pays, yes, 8, api.ErrPledgeTwice}, {gets, yes, 5, api.ErrPledgeTwice}, {pays, yes, 9, api.ErrPledgeTwice}, {gets, yes, 9, api.ErrPledgeTwice},
		{pays, no, 5, api.ErrPledgeTwice}, {gets, no, 8, api.ErrPledgeTwice}, {pays, no, 0, api.ErrPledgeTwice}, {gets, no, 9, api.ErrPledgeTwice},
	} {
		d.vote(k.pays, k.yes, k.t, k.want)
		d.fate(api.FateCommitted, 9)
		d.left(true, false)
	}
	d = dropped(t)
	d.vote(pays, yes, 5, api.OK)
	d.vote(gets, yes, 8, api.OK)
	d.fate(api.FateDropped, 0)
	d.notReady()
	d.vote(gets, no, 8, api.ErrPledgeTwice)
	d = dropped(t)
	d.vote(gets, no, 8, api.OK)
	d.vote(gets, yes, 8, api.ErrPledgeTwice)
	d.vote(pays, no, 8, api.OK)
	d.fate(api.FateDropped, 0)
}

// P16.2: it is ready with two yeses, at the greater stamp, whichever side said that; not with none, one, a no, or once it is decided.
func TestReady(t *testing.T) {
	for _, a := range someStamps() {
		for _, b := range someStamps() {
			for _, side := range sides() {
				d := begun(t)
				d.notReady()
				d.vote(side, yes, a, api.OK)
				d.notReady()
				d.vote(!side, yes, b, api.OK)
				d.ready(max(a, b))
				d.ready(max(a, b)) // and stays so
				d.abort(api.OK)
				d.notReady()
				d = voted(t, a, b)
				d.commit(max(a, b), api.OK)
				d.notReady()
				d = begun(t)
				d.vote(side, no, a, api.OK)
				d.vote(!side, yes, b, api.OK)
				d.notReady()
				d = begun(t)
				d.vote(side, yes, a, api.OK)
				d.vote(!side, no, b, api.OK)
				d.notReady()
				d = begun(t)
				d.vote(side, no, a, api.OK)
				d.vote(!side, no, b, api.OK)
				d.notReady()
			}
		}
	}
}
