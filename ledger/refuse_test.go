package ledger

import (
	"slices"
	"testing"

	"moiety/api"
)

// someBook is a book by a half with accounts of any kind: 1 has 100, 2 has nothing, 3 has all but the greatest amount, 4 has that; no other one is open.
func someBook(t *testing.T) *pair {
	t.Helper()
	return begun(t, 0.5, 1, 100, 2, 0, 3, most-1, 4, most)
}

// P14.1: what is no account is told ahead of one that is open, that ahead of what is no amount.
func TestOpenRefusedInOrder(t *testing.T) {
	d := someBook(t)
	for _, n := range append(noAmounts(), 0, 5) {
		for _, account := range noAccounts() {
			d.open(account, n, api.ErrLedgerAccount)
		}
		for _, account := range []int{1, 2, 3, 4} {
			d.open(account, n, api.ErrLedgerThere)
		}
	}
	for _, n := range noAmounts() {
		for _, account := range []int{0, 5, 4095} {
			d.open(account, n, api.ErrLedgerAmount)
		}
	}
	d.list(1, 100, 2, 0, 3, most-1, 4, most)
}

// noMoves is amounts that can't be moved: 0 is an amount, but none that is moved.
func noMoves() []int64 { return append(noAmounts(), 0) }

// P14.2: what is no account is told ahead of all else, on either side and on both.
func TestMoveNoAccount(t *testing.T) {
	d := someBook(t)
	for _, n := range []int64{low, -1, 0, 1, 1000, most, most + 1, high} {
		for _, no := range noAccounts() {
			for _, other := range []int{0, 1, 2, 4, 5, 4095, -1, 4096, no} {
				d.noMoveAtOnce(no, other, n, api.ErrLedgerAccount)
				d.noMoveAtOnce(other, no, n, api.ErrLedgerAccount)
			}
		}
	}
	d.stands()
}

// noMoveAtOnce asks for a move that is refused, and looks at the answers alone.
func (d *pair) noMoveAtOnce(from, to int, n int64, want api.Errno) {
	d.Helper()
	got, err := d.b.Move(from, to, n)
	if got != 0 || err != want {
		d.Errorf("Move(%d, %d, %d) = %d, %d, want %d", from, to, n, got, err, want)
	}
	if _, err := d.p.Move(from, to, n); err != want {
		d.Errorf("Move(%d, %d, %d): by the words %d, want %d", from, to, n, err, want)
	}
}

// P14.2: then what is no amount above 0, also from an account to itself, or where one isn't open, has too little, or too much.
func TestMoveNoAmount(t *testing.T) {
	d := someBook(t)
	for _, n := range noMoves() {
		for from := range 6 {
			for to := range 6 {
				d.noMove(from, to, n, api.ErrLedgerAmount)
			}
		}
		d.noMove(0, 4095, n, api.ErrLedgerAmount)
		d.noMove(4095, 4095, n, api.ErrLedgerAmount)
	}
	d.list(1, 100, 2, 0, 3, most-1, 4, most)
}

// P14.2: then from an account to itself, open or not, and whatever it has.
func TestMoveSelf(t *testing.T) {
	d := someBook(t)
	for _, account := range []int{0, 1, 2, 3, 4, 5, 4095} {
		for _, n := range []int64{1, 2, 66, 67, 100, 101, most - 1, most} {
			d.noMove(account, account, n, api.ErrLedgerSelf)
		}
	}
	d.list(1, 100, 2, 0, 3, most-1, 4, most)
}

// P14.2: then one that pays and isn't open, whatever the other one is.
func TestMoveFrom(t *testing.T) {
	d := someBook(t)
	for _, from := range []int{0, 5, 4095} {
		for _, to := range []int{1, 2, 3, 4, 6, 4094} {
			for _, n := range []int64{1, 2, 100, most - 1, most} {
				d.noMove(from, to, n, api.ErrLedgerFrom)
			}
		}
	}
	d.list(1, 100, 2, 0, 3, most-1, 4, most)
}

// P14.2: then one that has too little, also for one that isn't open, or that would have too much.
func TestMoveShortIsToldAheadOfTheOther(t *testing.T) {
	d := someBook(t)
	for _, to := range []int{0, 5, 4095, 3, 4} {
		for _, n := range []int64{68, 100, 101, most - 1, most} {
			d.noMove(1, to, n, api.ErrLedgerShort)
		}
		d.noMove(2, to, 1, api.ErrLedgerShort)
	}
	d.noMove(3, 4, most-1, api.ErrLedgerShort)
	d.noMove(4, 3, most, api.ErrLedgerShort)
	d.noMove(4, 0, most, api.ErrLedgerShort)
	d.list(1, 100, 2, 0, 3, most-1, 4, most)
}

// P14.2: then one that gets and isn't open; at last one that would have too much.
func TestMoveTo(t *testing.T) {
	d := someBook(t)
	for _, to := range []int{0, 5, 4095} {
		for _, n := range []int64{1, 2, 66, 67} { // of 67 the charge is 33
			d.noMove(1, to, n, api.ErrLedgerTo)
		}
		d.noMove(4, to, most/2, api.ErrLedgerTo)
	}
	for _, n := range []int64{2, 66, 67} {
		d.noMove(1, 3, n, api.ErrLedgerFull)
	}
	for _, n := range []int64{1, 67} {
		d.noMove(1, 4, n, api.ErrLedgerFull)
	}
	d.list(1, 100, 2, 0, 3, most-1, 4, most)
	d.move(1, 3, 1, 0)
	d.noMove(1, 3, 1, api.ErrLedgerFull)
	d.list(1, 99, 2, 0, 3, most, 4, most)
}

// refused is calls of which each is refused by someBook.
func refused() []call {
	var l []call
	for _, n := range append(noMoves(), 1, 2, 100, most) {
		for _, no := range noAccounts() {
			l = append(l, call{kind: kindOpen, from: no, n: n}, call{kind: kindMove, from: no, to: 1, n: n}, call{kind: kindMove, from: 1, to: no, n: n})
		}
		for account := 1; account <= 4; account++ {
			l = append(l, call{kind: kindOpen, from: account, n: n}, call{kind: kindMove, from: account, to: account, n: n}, call{kind: kindMove, from: 5, to: account, n: n})
		}
		l = append(l, call{kind: kindMove, from: 1, to: 5, n: n}, call{kind: kindMove, from: 2, to: 1, n: n}, call{kind: kindMove, from: 1, to: 4, n: n})
	}
	for _, n := range noAmounts() {
		l = append(l, call{kind: kindOpen, from: 0, n: n}, call{kind: kindOpen, from: 5, n: n}, call{kind: kindMove, from: 4, to: 2, n: n})
	}
	return append(l, call{kind: kindMove, from: 1, to: 3, n: 2}, call{kind: kindMove, from: 1, to: 2, n: 68}, call{kind: kindMove, from: 4, to: 2, n: most})
}

// onward is calls by which all that a book has is told, and how it goes on.
func onward() []call {
	move := func(from, to int, n int64) call { return call{kind: kindMove, from: from, to: to, n: n} }
	return []call{
		{kind: kindList}, {kind: kindHas, from: 0}, {kind: kindHas, from: 1}, {kind: kindHas, from: 5}, {kind: kindPaid, from: 1}, move(1, 2, 10), move(1, 3, 1), {kind: kindOpen, from: 5, n: 7},
		{kind: kindList}, move(5, 1, 5), move(4, 2, most/2), move(3, 5, 1000), {kind: kindOpen, from: 0, n: 1}, move(2, 0, 3), {kind: kindOpen, from: 4095, n: 0}, move(1, 4095, 2), {kind: kindList},
	}
}

// P14.1, P14.2: a call that is refused leaves the book as it was: it is as one that never was asked, and goes on as that does.
func TestRefusedCallsChangeNothing(t *testing.T) {
	var want []said
	b := someBook(t).b
	for _, k := range onward() {
		x := k.ask(b)
		if x.err != api.OK {
			t.Error(k, x)
		}
		want = append(want, x)
	}
	all := someBook(t).b
	for _, k := range refused() {
		a := someBook(t).b
		for _, one := range []*Book{a, all} {
			if got := k.ask(one); got.err == api.OK || !got.like(said{err: got.err}) {
				t.Errorf("%v: %v", k, got)
			}
		}
		for n, next := range onward() {
			if got := next.ask(a); !got.like(want[n]) {
				t.Errorf("%v, then %v = %v, want %v", k, next, got, want[n])
			}
		}
	}
	for n, next := range onward() { // and so is one of which all of them were asked
		if got := next.ask(all); !got.like(want[n]) {
			t.Errorf("behind all, %v = %v, want %v", next, got, want[n])
		}
	}
}

// P1: every call answers, at all arguments, and beside an error, or where nothing is open, all else is nought.
func TestAllAnswer(t *testing.T) {
	accounts := append(noAccounts(), 0, 1, 2, 3, 4, 5, 4094, 4095)
	amounts := append(noAmounts(), 0, 1, 100, most-1, most)
	for _, rate := range []float64{0, bit, 0.01, 1} {
		b := made(t, rate)
		for _, n := range amounts {
			for _, from := range accounts {
				for _, to := range accounts {
					got := call{kind: kindMove, from: from, to: to, n: n}.ask(b)
					if got.err != api.OK && !got.like(said{err: got.err}) || got.n < 0 {
						t.Errorf("Move(%d, %d, %d): %v", from, to, n, got)
					}
				}
				call{kind: kindOpen, from: from, n: n}.ask(b)
				has := call{kind: kindHas, from: from}.ask(b)
				if slices.Contains(noAccounts(), from) && (has.there || has.n != 0 || b.Paid(from) != 0) || has.n < 0 || has.n > most {
					t.Errorf("Has(%d): %v, Paid: %d", from, has, b.Paid(from))
				}
			}
		}
	}
}
