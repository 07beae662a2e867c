package ledger

import (
	"math/big"
	"slices"

	"moiety/api"
)

// move is a move that was done, and its charge.
type move struct {
	from, to  int
	n, charge int64
}

// plain is a book as the chapter's words have it: how it was opened, and all moves that were done, of which all is summed up anew whenever it is asked for.
type plain struct {
	rate   float64
	opened []api.Entry
	moves  []move
}

func newPlain(rate float64) *plain { return &plain{rate: rate} }

func (p *plain) isOpen(account int) bool {
	return slices.ContainsFunc(p.opened, func(e api.Entry) bool { return e.Key == account })
}

// fee is the greatest whole number that is not above the exact product of an amount and the rate.
func (p *plain) fee(n int64) int64 {
	exact := new(big.Rat).SetFloat64(p.rate)
	exact.Mul(exact, new(big.Rat).SetInt64(n))
	return new(big.Int).Div(exact.Num(), exact.Denom()).Int64()
}

func (p *plain) Open(account int, n int64) api.Errno {
	if account < 0 || account > 4095 {
		return api.ErrLedgerAccount
	}
	if p.isOpen(account) {
		return api.ErrLedgerThere
	}
	if n < 0 || n > 1000000000000000 {
		return api.ErrLedgerAmount
	}
	p.opened = append(p.opened, api.Entry{Key: account, V: n})
	return api.OK
}

func (p *plain) Move(from, to int, n int64) (int64, api.Errno) {
	if from < 0 || to < 0 || from > 4095 || to > 4095 {
		return 0, api.ErrLedgerAccount
	}
	if n <= 0 || n > 1000000000000000 {
		return 0, api.ErrLedgerAmount
	}
	if from == to {
		return 0, api.ErrLedgerSelf
	}
	if !p.isOpen(from) {
		return 0, api.ErrLedgerFrom
	}
	charge := p.fee(n)
	if had, _ := p.Has(from); had < n+charge {
		return 0, api.ErrLedgerShort
	}
	if !p.isOpen(to) {
		return 0, api.ErrLedgerTo
	}
	if had, _ := p.Has(to); had+n > 1000000000000000 {
		return 0, api.ErrLedgerFull
	}
	p.moves = append(p.moves, move{from, to, n, charge})
	return charge, api.OK
}

func (p *plain) Has(account int) (int64, bool) {
	if !p.isOpen(account) {
		return 0, false
	}
	var sum int64
	for _, e := range p.opened {
		if e.Key == account {
			sum = e.V
		}
	}
	for _, m := range p.moves {
		if m.from == account {
			sum -= m.n + m.charge
		}
		if m.to == account {
			sum += m.n
		}
	}
	return sum, true
}

func (p *plain) Paid(account int) int64 {
	var sum int64
	for _, m := range p.moves {
		if m.from == account {
			sum += m.charge
		}
	}
	return sum
}

func (p *plain) List() []api.Entry {
	var all, paid []api.Entry
	for account := range 4096 {
		if has, ok := p.Has(account); ok {
			all = append(all, api.Entry{Key: account, V: has})
		}
		if n := p.Paid(account); n != 0 {
			paid = append(paid, api.Entry{Key: 4096 + account, V: n})
		}
	}
	return append(all, paid...)
}

func (p *plain) copy() *plain {
	return &plain{rate: p.rate, opened: slices.Clone(p.opened), moves: slices.Clone(p.moves)}
}
