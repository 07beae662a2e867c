package ledger

import (
	"math/rand/v2"
	"slices"
	"testing"

	"moiety/api"
)

// player is what both a book and a plain one can be asked.
type player interface {
	Open(account int, n int64) api.Errno
	Move(from, to int, n int64) (int64, api.Errno)
	Has(account int) (int64, bool)
	Paid(account int) int64
	List() []api.Entry
}

// The kinds of calls.
const (
	kindOpen = iota
	kindMove
	kindHas
	kindPaid
	kindList
	kinds
)

// call is one call of any kind, by one account, or from it to another one, and an amount.
type call struct {
	kind, from, to int
	n              int64
}

// said is what a call answers.
type said struct {
	n     int64
	there bool
	l     []api.Entry
	err   api.Errno
}

func (k call) ask(b player) (x said) {
	switch k.kind {
	case kindOpen:
		x.err = b.Open(k.from, k.n)
	case kindMove:
		x.n, x.err = b.Move(k.from, k.to, k.n)
	case kindHas:
		x.n, x.there = b.Has(k.from)
	case kindPaid:
		x.n = b.Paid(k.from)
	case kindList:
		x.l = b.List()
	}
	return x
}

// like is whether two calls were answered alike.
func (x said) like(y said) bool {
	return x.n == y.n && x.there == y.there && slices.Equal(x.l, y.l) && x.err == y.err
}

// someAccount is one of few accounts, for the most part, so that they meet each other.
func someAccount(r *rand.Rand) int {
	switch r.IntN(60) {
	case 0:
		return noAccounts()[r.IntN(len(noAccounts()))]
	case 1:
		return []int{top, top - 1, 4}[r.IntN(3)]
	}
	return r.IntN(7)
}

// someAmount is a number of any size, those at both ends of amounts and what is none among them.
func someAmount(r *rand.Rand) int64 {
	switch r.IntN(60) {
	case 0:
		return noAmounts()[r.IntN(len(noAmounts()))]
	case 1, 2:
		return []int64{0, 1, most - 1, most}[r.IntN(4)]
	case 3:
		return r.Int64N(most + 1)
	}
	return r.Int64N(most+1) >> r.IntN(51)
}

// someCall is any call: a move, for the most part, and if it can be, one of about what from has, or of about what to has room for.
func someCall(r *rand.Rand, b player) call {
	k := call{kind: kindMove, from: someAccount(r), to: someAccount(r), n: someAmount(r)}
	switch r.IntN(20) {
	case 0:
		k.kind = kindOpen
	case 1:
		k.kind, k.n = kindOpen, most-r.Int64N(1000)
	case 2:
		k.kind = kindHas + r.IntN(3)
	case 3, 4, 5:
		has, _ := b.Has(k.from)
		k.n = has + r.Int64N(4) - 2
	case 6, 7, 8:
		has, _ := b.Has(k.to)
		k.n = most - has + r.Int64N(4) - 1
	case 9:
		has, _ := b.Has(k.from)
		k.n = has/2 + r.Int64N(4) - 2
	}
	return k
}

// P14.1 to P14.3: any calls, right and wrong, of two books side by side by any rates, are answered as the chapter's words have it, and what was asked of one changes nothing in the other.
func TestAnyCalls(t *testing.T) {
	r := rand.New(rand.NewPCG(14, 1))
	errs := map[api.Errno]int{}
	for round := range 60 {
		rates := someRates()
		d := []*pair{begun(t, rates[round%len(rates)]), begun(t, rates[r.IntN(len(rates))])}
		for range 120 {
			x := d[r.IntN(2)]
			k := someCall(r, x.p)
			got, want := k.ask(x.b), k.ask(x.p)
			if !got.like(want) {
				t.Fatalf("%v: %v, want %v", k, got, want)
			}
			errs[got.err]++
		}
		d[0].stands()
		d[1].stands()
	}
	for _, err := range []api.Errno{api.OK, api.ErrLedgerAccount, api.ErrLedgerThere, api.ErrLedgerAmount, api.ErrLedgerSelf, api.ErrLedgerFrom, api.ErrLedgerShort, api.ErrLedgerTo, api.ErrLedgerFull} {
		if errs[err] < 30 {
			t.Error("too few of", err, errs)
		}
	}
}
