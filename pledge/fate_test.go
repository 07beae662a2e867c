package pledge

import (
	"testing"

	"moiety/api"
)

// P16.3: with two yeses it is committed at the greater stamp and above, to the end, not below.
func TestCommit(t *testing.T) {
	for _, k := range [][2]int64{{5, 8}, {8, 5}, {5, 5}, {1, 1}, {1, 2}, {2, 1}, {1, end}, {end, 1}, {end, end}, {end - 1, end}, {end - 1, 1 << 32}} {
		for _, at := range []int64{1, 2, k[0] - 1, k[0], k[0] + 1, k[1] - 1, k[1], k[1] + 1, end - 1, end} {
			if at < 1 || at > end {
				continue
			}
			d := voted(t, k[0], k[1])
			if at < k[0] || at < k[1] {
				d.commit(at, api.ErrPledgeOrder)
				d.fate(api.FateNone, 0)
				d.ready(max(k[0], k[1]))
				d.left()
				continue
			}
			d.commit(at, api.OK)
			d.fate(api.FateCommitted, at)
			d.notReady()
			d.left(true, false)
		}
	}
}

// P16.3: what is no stamp commits nothing, whatever was said, and decided.
func TestCommitNoStamp(t *testing.T) {
	for _, at := range noStamps() {
		one := begun(t)
		one.vote(gets, yes, 5, api.OK)
		for _, d := range []*pair{begun(t), one, voted(t, 5, 8), voted(t, 1, end), dropped(t), committed(t, 9)} {
			d.commit(at, api.ErrPledgeTime)
		}
	}
}

// P16.3: without a yes, or with one alone, it isn't committed at any stamp.
func TestCommitWithoutVotes(t *testing.T) {
	for _, at := range someStamps() {
		d := begun(t)
		d.commit(at, api.ErrPledgeVotes)
		d.left(true, false)
		for _, side := range sides() {
			d := begun(t)
			d.vote(side, yes, 5, api.OK)
			d.commit(at, api.ErrPledgeVotes)
			d.left(!side)
			d.vote(!side, yes, 5, api.OK)
			d.commit(5, api.OK)
		}
	}
}

// P16.3: what was committed is committed again at its own stamp, and nothing changes; at no other one, also where that is below what was said.
func TestCommitAgain(t *testing.T) {
	for _, own := range []int64{8, 9, end} {
		for _, at := range append(someStamps(), 4, 6, 7, 9, 10) {
			d := committed(t, own)
			d.ack(pays, api.OK)
			want := api.ErrPledgeFate
			if at == own {
				want = api.OK
			}
			d.commit(at, want)
			d.commit(own, api.OK)
			d.fate(api.FateCommitted, own)
			d.left(false)
			d.notReady()
		}
	}
}

// P16.3: what was dropped isn't committed, whoever dropped it, and whatever was said.
func TestCommitDropped(t *testing.T) {
	for _, at := range someStamps() {
		d := dropped(t)
		d.commit(at, api.ErrPledgeFate)
		d.vote(pays, yes, 1, api.OK)
		d.commit(at, api.ErrPledgeFate)
		d.vote(gets, yes, 1, api.OK)
		d.commit(at, api.ErrPledgeFate)
		d = voted(t, 1, 1)
		d.abort(api.OK)
		d.commit(at, api.ErrPledgeFate)
		for _, side := range sides() {
			d := begun(t)
			d.vote(side, no, at, api.OK)
			d.commit(at, api.ErrPledgeFate)
			d.vote(!side, yes, 1, api.OK)
			d.commit(at, api.ErrPledgeFate)
			d.fate(api.FateDropped, 0)
		}
	}
}

// P16.3: of what is wrong with a Commit the first is told: the stamp, what is decided, the votes, their stamps.
func TestCommitRefusedInOrder(t *testing.T) {
	d := begun(t)
	d.commit(0, api.ErrPledgeTime) // ahead of the votes
	d.commit(1, api.ErrPledgeVotes)
	d.vote(pays, yes, 5, api.OK)
	d.commit(end+1, api.ErrPledgeTime)
	d.commit(4, api.ErrPledgeVotes) // ahead of the order
	d.vote(gets, yes, 8, api.OK)
	d.commit(-1, api.ErrPledgeTime) // ahead of the order
	d.commit(4, api.ErrPledgeOrder)
	d.commit(7, api.ErrPledgeOrder)
	d.commit(8, api.OK)
	d.commit(0, api.ErrPledgeTime) // ahead of what is decided
	d.commit(4, api.ErrPledgeFate) // ahead of the order
	d = dropped(t)
	d.commit(0, api.ErrPledgeTime) // ahead of what is decided
	d.commit(4, api.ErrPledgeFate) // ahead of the votes
	d.vote(gets, yes, 8, api.OK)
	d.commit(4, api.ErrPledgeFate)
}

// P16.3: what isn't decided is dropped, whatever was said; and so is what was dropped, again; nothing that was said is lost by that.
func TestAbort(t *testing.T) {
	one := begun(t)
	one.vote(gets, yes, 5, api.OK)
	for _, d := range []*pair{begun(t), one, voted(t, 5, 5)} {
		for range 3 {
			d.abort(api.OK)
			d.fate(api.FateDropped, 0)
			d.notReady()
			d.left(true, false)
		}
		d.vote(gets, yes, 5, api.OK)
		d.vote(gets, no, 5, api.ErrPledgeTwice)
		d.ack(gets, api.OK)
		d.abort(api.OK)
		d.left(true)
	}
	for _, side := range sides() {
		d := begun(t)
		d.vote(side, no, 5, api.OK)
		d.abort(api.OK)
		d.vote(side, yes, 5, api.ErrPledgeTwice)
		d.fate(api.FateDropped, 0)
	}
}

// P16.3: what was committed isn't dropped.
func TestAbortCommitted(t *testing.T) {
	for _, at := range []int64{8, 9, end} {
		d := committed(t, at)
		for range 2 {
			d.abort(api.ErrPledgeFate)
			d.fate(api.FateCommitted, at)
			d.ack(pays, api.OK)
			d.ack(gets, api.OK)
		}
		d.left()
	}
}

// P16.3: no fate but these three is ever told, and a stamp of what is committed alone.
func TestFates(t *testing.T) {
	d := voted(t, 5, 8)
	d.fate(api.FateNone, 0)
	d.abort(api.OK)
	d.fate(api.FateDropped, 0)
	committed(t, end).fate(api.FateCommitted, end)
	dropped(t).fate(api.FateDropped, 0)
}

// P16.4: nobody did what isn't decided; that is not taken for said, nor remembered.
func TestAckAhead(t *testing.T) {
	one := begun(t)
	one.vote(pays, yes, 5, api.OK)
	for _, d := range []*pair{begun(t), one, voted(t, 5, 8)} {
		left := told(d.p).left
		for _, side := range sides() {
			d.ack(side, api.ErrPledgeFate)
			d.left(left...)
		}
		d.abort(api.OK)
		d.left(true, false)
	}
	d := voted(t, 5, 8)
	d.ack(pays, api.ErrPledgeFate)
	d.ack(gets, api.ErrPledgeFate)
	d.commit(8, api.OK)
	d.left(true, false)
}

// P16.4: each side does what was decided, once or twice, in any order; whoever did isn't left.
func TestAck(t *testing.T) {
	refused := func(side bool) *pair {
		d := begun(t)
		d.vote(side, no, 5, api.OK)
		return d
	}
	for _, side := range sides() {
		for _, d := range []*pair{committed(t, 9), dropped(t), refused(pays), refused(gets)} {
			was := told(d.p)
			d.left(true, false)
			for range 2 {
				d.ack(side, api.OK)
				d.left(!side)
			}
			for range 2 {
				d.ack(!side, api.OK)
				d.left()
			}
			d.ack(side, api.OK)
			d.left()
			d.fate(was.is, was.at)
		}
	}
}

// P16.4: what was done stays done, whatever is said behind it.
func TestDoneStaysDone(t *testing.T) {
	d := dropped(t)
	d.ack(gets, api.OK)
	d.vote(gets, yes, 5, api.OK)
	d.left(true)
	d.vote(pays, no, 5, api.OK)
	d.left(true)
	d.abort(api.OK)
	d.commit(5, api.ErrPledgeFate)
	d.left(true)
	d.ack(pays, api.OK)
	d.vote(pays, no, 6, api.OK)
	d.left()
	d = committed(t, 9)
	d.ack(pays, api.OK)
	d.commit(9, api.OK)
	d.commit(10, api.ErrPledgeFate)
	d.vote(pays, yes, 5, api.OK)
	d.vote(pays, no, 5, api.ErrPledgeTwice)
	d.left(false)
}

// P16.4: ahead of what is decided those are left that said nothing, the one that pays first.
func TestLeftAhead(t *testing.T) {
	for _, side := range sides() {
		d := begun(t)
		d.left(true, false)
		d.vote(side, yes, 0, api.ErrPledgeTime)
		d.left(true, false)
		d.vote(side, yes, 5, api.OK)
		d.left(!side)
		d.vote(!side, yes, end+1, api.ErrPledgeTime)
		d.left(!side)
		d.vote(!side, yes, 5, api.OK)
		d.left()
	}
}
