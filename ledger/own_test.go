package ledger

import (
	"math/rand/v2"
	"slices"
	"testing"

	"moiety/api"
)

// spoil changes entries, and what stands in the spare room behind them.
func spoil(l []api.Entry) {
	l = l[:cap(l)]
	for k := range l {
		l[k] = api.Entry{Key: 4000 + k, V: 777}
	}
}

// P14.3: a list that was told is its owner's: what he changes, or puts behind it, the book does not see, nor does anyone who was told another one.
func TestListIsItsOwners(t *testing.T) {
	d := begun(t, 0.1)
	for account := range 40 {
		first, second := d.b.List(), d.b.List()
		want := slices.Clone(second)
		_ = append(first, of(1, 2, 3, 4)...)
		spoil(first)
		if !slices.Equal(second, want) {
			t.Errorf("told %v, is %v", want, second)
		}
		spoil(second) // the last one that was told
		d.stands()
		d.open(account, 1000, api.OK)
		if account > 0 {
			d.move(account, account-1, 20, 2)
		}
	}
}

// P14.3: what comes later changes no list that was told: no account that is opened, no move, and no list that is told.
func TestListStaysWithItsOwner(t *testing.T) {
	r := rand.New(rand.NewPCG(14, 2))
	b := made(t, 0.01)
	var lists, were [][]api.Entry
	for range 400 {
		someCall(r, b).ask(b)
		l := b.List()
		lists = append(lists, l)
		were = append(were, slices.Clone(l))
	}
	for k := range lists {
		if !slices.Equal(lists[k], were[k]) {
			t.Errorf("list %d: told %v, is %v", k, were[k], lists[k])
		}
	}
}

// copied is a pair of its own that has the same: a copy of the book beside one of the plain book.
func (d *pair) copied() *pair {
	d.Helper()
	c := &pair{d.T, d.b.Copy(), d.p.copy()}
	if c.b == nil {
		d.Fatal("no copy")
	}
	c.stands()
	return c
}

// P14.3: a copy has the same, and the same rate; a copy of a book without open accounts too, and a copy of a copy.
func TestCopy(t *testing.T) {
	for _, rate := range someRates() {
		d := begun(t, rate)
		none := d.copied()
		none.list()
		none.open(1, 10, api.OK)
		d.list()
		d.open(1, 100, api.OK)
		d.open(2, 0, api.OK)
		none.list(1, 10)
		d.move(1, 2, 50, d.p.fee(50))
		c := d.copied()
		c.move(2, 1, 10, c.p.fee(10))
		again := c.copied()
		again.move(2, 1, 5, c.p.fee(5))
		c.stands()
		d.stands()
	}
}

// P14.3: whatever is opened or moved in one changes nothing in the other.
func TestCopyStandsBesideItsBook(t *testing.T) {
	d := begun(t, 0.5, 1, 100, 2, 50)
	d.move(1, 2, 20, 10)
	c := d.copied()
	d.open(3, 5, api.OK)
	c.none(3)
	c.list(1, 70, 2, 70, 4097, 10)
	c.open(3, 7, api.OK)
	c.open(4, 9, api.OK)
	d.list(1, 70, 2, 70, 3, 5, 4097, 10)
	d.move(2, 3, 40, 20)
	c.list(1, 70, 2, 70, 3, 7, 4, 9, 4097, 10)
	c.move(2, 1, 4, 2)
	c.move(1, 4, 10, 5)
	d.list(1, 70, 2, 10, 3, 45, 4097, 10, 4098, 20)
	c.list(1, 59, 2, 64, 3, 7, 4, 19, 4097, 15, 4098, 2)
}

// P14.3: a copy of a book goes on as that does, in any calls of both, each by its own, with copies of copies between.
func TestCopiesGoOnByThemselves(t *testing.T) {
	r := rand.New(rand.NewPCG(14, 3))
	for round := range 30 {
		all := []*pair{begun(t, someRates()[round%len(someRates())], 0, most, 1, 0, 2, most/2)}
		for range 60 {
			d := all[r.IntN(len(all))]
			if len(all) < 5 && r.IntN(8) == 0 {
				all = append(all, d.copied())
				continue
			}
			k := someCall(r, d.p)
			if got, want := k.ask(d.b), k.ask(d.p); !got.like(want) {
				t.Fatalf("%v: %v, want %v", k, got, want)
			}
		}
		for _, d := range all {
			d.stands()
		}
	}
}

// P14.1, P14.2: two books side by side know nothing of each other.
func TestTwoBooks(t *testing.T) {
	a, b := begun(t, 0.01), begun(t, 1)
	a.open(1, 1000, api.OK)
	b.none(1)
	b.open(1, 10, api.OK)
	b.open(2, 0, api.OK)
	a.noMove(1, 2, 5, api.ErrLedgerTo)
	a.open(2, 7, api.OK)
	a.move(1, 2, 200, 2)
	b.list(1, 10, 2, 0)
	b.move(1, 2, 5, 5)
	a.list(1, 798, 2, 207, 4097, 2)
	b.list(1, 0, 2, 5, 4097, 5)
}
