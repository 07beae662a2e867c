package locks

import (
	"math/rand/v2"
	"slices"
	"testing"

	"moiety/api"
)

// player is what both a table and a plain one can be asked.
type player interface {
	Ask(tx, key int, write bool) (api.Turn, api.Errno)
	End(tx int) ([]api.Grant, api.Errno)
	Holds(key int) []api.Hold
	Waits(key int) []api.Hold
	Dead(tx int) bool
}

// call is an ask, or an end.
type call struct {
	tx, key    int
	write, end bool
}

// said is what a call answers.
type said struct {
	x   api.Turn
	l   []api.Grant
	err api.Errno
}

func (c call) to(p player) (s said) {
	if c.end {
		s.l, s.err = p.End(c.tx)
	} else {
		s.x, s.err = p.Ask(c.tx, c.key, c.write)
	}
	return s
}

// like is whether two calls were answered alike.
func (s said) like(o said) bool {
	return sameTurn(s.x, o.x) && slices.Equal(s.l, o.l) && s.err == o.err
}

// isBare is whether all else is nought beside an error.
func (s said) isBare() bool { return s.err == api.OK || isBare(s.x) && len(s.l) == 0 }

// standAlike is whether two tables tell the same of some keys and transactions.
func standAlike(a, b player, keys, txs []int) bool {
	for _, key := range keys {
		if !slices.Equal(a.Holds(key), b.Holds(key)) || !slices.Equal(a.Waits(key), b.Waits(key)) {
			return false
		}
	}
	for _, tx := range txs {
		if a.Dead(tx) != b.Dead(tx) {
			return false
		}
	}
	return true
}

// mixOf is how any calls are chosen: of how many transactions and keys, how often one writes, and how often one ends.
type mixOf struct {
	txs, keys     int
	writes, dying float64
}

// mixes is few and many of each.
func mixes() []mixOf {
	return []mixOf{{3, 1, 0.5, 0.3}, {4, 2, 0.5, 0.25}, {8, 1, 0.2, 0.2}, {8, 3, 0.3, 0.2}, {20, 4, 0.1, 0.15}, {20, 4, 0.6, 0.15}, {60, 6, 0.3, 0.1}, {60, 100, 0.5, 0.02}, {12, 30, 0.4, 0.03}}
}

// someTx is a transaction, or, now and then, a number that is none, or the greatest one there may be.
func (m mixOf) someTx(r *rand.Rand) int {
	switch r.IntN(60) {
	case 0:
		return noTxs()[r.IntN(len(noTxs()))]
	case 1:
		return mostInt - r.IntN(2)
	}
	return 1 + r.IntN(m.txs)
}

// someKey is a key, or, now and then, a number that is none, or one at an end.
func (m mixOf) someKey(r *rand.Rand) int {
	switch r.IntN(60) {
	case 0:
		return noKeys()[r.IntN(len(noKeys()))]
	case 1:
		return endKeys()[r.IntN(len(endKeys()))]
	}
	return 10 * r.IntN(m.keys)
}

// someCall is any call; a dead one ends soon, for the most part, so that it may ask again.
func (m mixOf) someCall(r *rand.Rand, p player) call {
	c := call{tx: m.someTx(r), key: m.someKey(r), write: r.Float64() < m.writes, end: r.Float64() < m.dying}
	c.end = c.end || p.Dead(c.tx) && r.IntN(4) > 0
	return c
}

// allTxs is all transactions that are chosen, and those next to them, and numbers that are none.
func (m mixOf) allTxs() []int {
	l := append(noTxs(), mostInt-2, mostInt-1, mostInt)
	for tx := range m.txs + 2 {
		l = append(l, tx)
	}
	return l
}

// allKeys is all keys that are chosen, those next to them, and numbers that are none.
func (m mixOf) allKeys() []int {
	l := append(noKeys(), endKeys()...)
	for k := range m.keys {
		l = append(l, 10*k, 10*k+1)
	}
	slices.Sort(l)
	return slices.Compact(l)
}

// P13.1 to P13.3: any calls, right and wrong ones, of two tables side by side, answer as the chapter's words have it, and leave them so.
func TestAnyCalls(t *testing.T) {
	r := rand.New(rand.NewPCG(13, 1))
	errs, wounded, woken, given := map[api.Errno]int{}, 0, 0, 0
	for _, m := range mixes() {
		txs, keys := m.allTxs(), m.allKeys()
		for range 12 {
			tables, plains := [2]*Table{made(t), made(t)}, [2]*plain{newPlain(), newPlain()}
			for range 250 {
				n := r.IntN(2)
				c := m.someCall(r, plains[n])
				got, want := c.to(tables[n]), c.to(plains[n])
				if !got.like(want) {
					t.Fatalf("%v: %v, want %v", c, got, want)
				}
				for n := range tables {
					if !standAlike(tables[n], plains[n], keys, txs) {
						t.Fatalf("%v: the tables stand otherwise", c)
					}
				}
				errs[got.err]++
				wounded, woken, given = wounded+len(got.x.Wounded), woken+len(got.x.Woken), given+len(got.l)
			}
		}
	}
	for _, err := range []api.Errno{api.OK, api.ErrLocksTx, api.ErrLocksKey, api.ErrLocksDead, api.ErrLocksWaits} {
		if errs[err] < 300 {
			t.Error("too few of", err, errs)
		}
	}
	if wounded < 1000 || woken < 300 || given < 300 {
		t.Error("too few wounded, woken, given:", wounded, woken, given)
	}
}

// shortCalls is all calls of three transactions and two keys.
func shortCalls() []call {
	var l []call
	for tx := 1; tx <= 3; tx++ {
		l = append(l, call{tx: tx, end: true})
		for key := range 2 {
			l = append(l, call{tx: tx, key: key}, call{tx: tx, key: key, write: true})
		}
	}
	return l
}

// P13.1 to P13.3: all short plays of three transactions and two keys there are, as the chapter's words have it.
func TestAllShortPlays(t *testing.T) {
	const long = 5
	all := shortCalls()
	txs, keys := []int{0, 1, 2, 3, 4}, []int{-1, 0, 1, 2}
	n := 1
	for range long {
		n *= len(all)
	}
	for play := range n {
		table, p := New(), newPlain()
		k := play
		for range long {
			c := all[k%len(all)]
			got, want := c.to(table), c.to(p)
			if !got.like(want) {
				t.Fatalf("play %d, %v: %v, want %v", play, c, got, want)
			}
			k /= len(all)
		}
		if !standAlike(table, p, keys, txs) {
			t.Fatalf("play %d: the tables stand otherwise", play)
		}
	}
}
