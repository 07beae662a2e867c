package pledge

import (
	"slices"
	"testing"

	"moiety/api"
)

// spoil turns all that a list has, and what stands in the spare room behind it.
func spoil(l []bool) {
	l = l[:cap(l)]
	for k := range l {
		l[k] = !l[k]
	}
}

// P16.4: the sides that were told are their owner's: what he changes, or puts behind them, the pledge doesn't see, nor does anyone who was told them anew.
func TestLeftIsItsOwners(t *testing.T) {
	one, did := begun(t), committed(t, 9)
	one.vote(pays, yes, 5, api.OK)
	did.ack(gets, api.OK)
	for _, d := range []*pair{begun(t), one, voted(t, 5, 8), committed(t, 9), dropped(t), did} {
		first, second := d.p.Left(), d.p.Left()
		were := slices.Clone(second)
		_ = append(first, true, false)
		spoil(first)
		if !slices.Equal(second, were) {
			t.Errorf("told %v, is %v", were, second)
		}
		d.stands()
		spoil(second)
		d.stands()
		d.abort(told(d.w).abortIs())
		d.stands()
	}
}

// abortIs is what Abort is to answer, by what is told.
func (x telling) abortIs() api.Errno {
	if x.is == api.FateCommitted {
		return api.ErrPledgeFate
	}
	return api.OK
}

// P16.4: what comes later changes no list that was told.
func TestListsStayWithTheirOwner(t *testing.T) {
	plays(fewCalls(), 4, func(play []call) {
		p := made(t, usual())
		lists, were := [][]bool{p.Left()}, [][]bool{{true, false}}
		for _, k := range play {
			k.ask(p)
			l := p.Left()
			lists, were = append(lists, l), append(were, slices.Clone(l))
		}
		if !slices.EqualFunc(lists, were, slices.Equal) {
			t.Fatalf("in %v: told %v, are %v", play, were, lists)
		}
	})
}

// P16.1: the transfer that was handed in, and what is handed out, are values: changed later, they change nothing.
func TestValuesAreTheirOwners(t *testing.T) {
	x := usual()
	d := &pair{t, made(t, x), newPlain(usual())}
	x.ID, x.From, x.To, x.N = 9, 9, 9, 9
	d.stands()
	y, part := d.p.Transfer(), d.p.Part(pays)
	y.ID, y.N, part.ID, part.N = 9, 9, 9, 9
	d.stands()
	d.vote(pays, yes, 5, api.OK)
}

// P16.1 to P16.4: two pledges side by side, also of the same transfer, know nothing of each other.
func TestSideBySide(t *testing.T) {
	for _, x := range []api.Transfer{usual(), {ID: 8, From: 2, To: 1, N: 100}} {
		a, b := begun(t), &pair{t, made(t, x), newPlain(x)}
		both := func() {
			a.stands()
			b.stands()
		}
		both()
		a.vote(pays, yes, 5, api.OK)
		both()
		b.vote(pays, yes, 6, api.OK)
		both()
		a.vote(gets, yes, 8, api.OK)
		both()
		b.vote(gets, no, 8, api.OK)
		both()
		a.fate(api.FateNone, 0)
		a.ready(8)
		b.ack(pays, api.OK)
		both()
		a.commit(9, api.OK)
		both()
		b.fate(api.FateDropped, 0)
		b.left(false)
		a.left(true, false)
		a.ack(gets, api.OK)
		both()
		b.abort(api.OK)
		both()
		a.fate(api.FateCommitted, 9)
	}
}
