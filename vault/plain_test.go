package vault

import (
	"maps"
	"math/big"
	"slices"

	"moiety/api"
)

// happened is what happened to an account at a stamp: what it has more, or less, and what it has paid more.
type happened struct {
	t         int64
	account   int
	has, paid int64
	opens     bool
}

// plain is a vault as the chapter's words have it: all that happened, and all that was asked for and not refused, of which everything is found anew whenever it is asked for.
type plain struct {
	rate               float64
	done               []happened
	parts              map[int]api.Held // by IDs: all that were ever held
	commits            map[int]int64    // by IDs: the stamps at which they were committed
	drops              map[int]bool
	met, closes, marks []int64
}

func newPlain(rate float64) *plain {
	return &plain{rate: rate, parts: map[int]api.Held{}, commits: map[int]int64{}, drops: map[int]bool{}}
}

func (p *plain) Top() int64 { return slices.Max(append([]int64{0}, p.met...)) }

func (p *plain) Closed() int64 { return slices.Max(append([]int64{0}, p.closes...)) }

func (p *plain) Mark() int64 { return slices.Max(append([]int64{0}, p.marks...)) }

// accounts is the accounts that were opened, rising.
func (p *plain) accounts() []int {
	var l []int
	for _, x := range p.done {
		l = append(l, x.account)
	}
	slices.Sort(l)
	return slices.Compact(l)
}

// known is the IDs that are known, rising.
func (p *plain) known() []int {
	l := slices.AppendSeq(slices.Collect(maps.Keys(p.parts)), maps.Keys(p.drops))
	slices.Sort(l)
	return slices.Compact(l)
}

func (p *plain) knows(id int) bool {
	is, _ := p.Fate(id)
	return is != api.FateNone
}

// fee is the greatest whole number that is not above the exact product of an amount and the rate.
func (p *plain) fee(n int64) int64 {
	exact := new(big.Rat).SetFloat64(p.rate)
	exact.Mul(exact, new(big.Rat).SetInt64(n))
	return new(big.Int).Div(exact.Num(), exact.Denom()).Int64()
}

// at is what an account has, and has paid, at a time, and whether it was opened by then.
func (p *plain) at(account int, t int64) (has, paid int64, opened bool) {
	for _, x := range p.done {
		if x.account == account && x.t <= t {
			has, paid, opened = has+x.has, paid+x.paid, opened || x.opens
		}
	}
	return has, paid, opened
}

func (p *plain) stampFault(t int64) api.Errno {
	if t <= 0 || t > end {
		return api.ErrVaultTime
	}
	if slices.ContainsFunc(p.met, func(met int64) bool { return t <= met }) {
		return api.ErrVaultOrder
	}
	return api.OK
}

func (p *plain) Open(t int64, account int, n int64) api.Errno {
	if err := p.stampFault(t); err != api.OK {
		return err
	}
	if account < 0 || account > 4095 {
		return api.ErrVaultAccount
	}
	if slices.Contains(p.accounts(), account) {
		return api.ErrVaultThere
	}
	if n < 0 || n > 1000000000000000 {
		return api.ErrVaultAmount
	}
	p.done = append(p.done, happened{t: t, account: account, has: n, opens: true})
	p.met = append(p.met, t)
	return api.OK
}

func (p *plain) Hold(t int64, x api.Part) api.Errno {
	if err := p.stampFault(t); err != api.OK {
		return err
	}
	if x.ID <= 0 {
		return api.ErrVaultID
	}
	if p.knows(x.ID) {
		return api.ErrVaultTwice
	}
	if len(p.known()) == 5000 {
		return api.ErrVaultMany
	}
	if x.Account < 0 || x.Account > 4095 {
		return api.ErrVaultAccount
	}
	if x.N <= 0 || x.N > 1000000000000000 {
		return api.ErrVaultAmount
	}
	has, _, opened := p.at(x.Account, end)
	if !opened {
		return api.ErrVaultNone
	}
	for _, h := range p.Held() {
		if h.Part.Account == x.Account {
			return api.ErrVaultBusy
		}
	}
	h := api.Held{Part: x, T: t}
	if x.Pays {
		h.Fee = p.fee(x.N)
		if has-x.N-h.Fee < 0 {
			return api.ErrVaultShort
		}
	} else if has+x.N > 1000000000000000 {
		return api.ErrVaultFull
	}
	p.parts[x.ID] = h
	p.met = append(p.met, t)
	return api.OK
}

func (p *plain) Commit(t int64, id int) api.Errno {
	if t <= 0 || t > end {
		return api.ErrVaultTime
	}
	is, since := p.Fate(id)
	if is != api.FateHeld && is != api.FateCommitted {
		return api.ErrVaultHold
	}
	if is == api.FateCommitted {
		if t != since {
			return api.ErrVaultTwice
		}
		return api.OK
	}
	if t < since {
		return api.ErrVaultOrder
	}
	h := p.parts[id]
	x := happened{t: t, account: h.Part.Account, has: h.Part.N}
	if h.Part.Pays {
		x.has, x.paid = -h.Part.N-h.Fee, h.Fee
	}
	p.done = append(p.done, x)
	p.commits[id] = t
	p.met = append(p.met, t)
	return api.OK
}

func (p *plain) Drop(id int) api.Errno {
	if id <= 0 {
		return api.ErrVaultID
	}
	if _, ok := p.commits[id]; ok {
		return api.ErrVaultTwice
	}
	if !p.knows(id) && len(p.known()) == 5000 {
		return api.ErrVaultMany
	}
	p.drops[id] = true
	return api.OK
}

func (p *plain) Close(t int64) api.Errno {
	if t < 0 || t > end {
		return api.ErrVaultTime
	}
	if slices.ContainsFunc(p.Held(), func(h api.Held) bool { return h.T <= t }) {
		return api.ErrVaultBusy
	}
	p.closes = append(p.closes, t)
	p.met = append(p.met, t)
	return api.OK
}

func (p *plain) Prune(mark int64) api.Errno {
	if mark < 0 || mark > end {
		return api.ErrVaultTime
	}
	if mark > p.Closed() {
		return api.ErrVaultOpen
	}
	p.marks = append(p.marks, mark)
	return api.OK
}

// timeFault is why nothing is told of a time.
func (p *plain) timeFault(at int64) api.Errno {
	if at < 0 || at > end {
		return api.ErrVaultTime
	}
	if at > p.Closed() {
		return api.ErrVaultOpen
	}
	if at < p.Mark() {
		return api.ErrVaultOld
	}
	return api.OK
}

func (p *plain) Has(account int, at int64) (int64, api.Errno) {
	if account < 0 || account > 4095 {
		return 0, api.ErrVaultAccount
	}
	if err := p.timeFault(at); err != api.OK {
		return 0, err
	}
	has, _, opened := p.at(account, at)
	if !opened {
		return 0, api.ErrVaultNone
	}
	return has, api.OK
}

func (p *plain) Snap(at int64) ([]api.Entry, api.Errno) {
	if err := p.timeFault(at); err != api.OK {
		return nil, err
	}
	var all, paid []api.Entry
	for _, account := range p.accounts() {
		has, n, opened := p.at(account, at)
		if opened {
			all = append(all, api.Entry{Key: account, V: has})
		}
		if n != 0 {
			paid = append(paid, api.Entry{Key: 4096 + account, V: n})
		}
	}
	return append(all, paid...), api.OK
}

func (p *plain) Held() []api.Held {
	var l []api.Held
	for _, id := range slices.Sorted(maps.Keys(p.parts)) {
		if is, _ := p.Fate(id); is == api.FateHeld {
			l = append(l, p.parts[id])
		}
	}
	return l
}

func (p *plain) Fate(id int) (api.Fate, int64) {
	if at, ok := p.commits[id]; ok {
		return api.FateCommitted, at
	}
	if p.drops[id] {
		return api.FateDropped, 0
	}
	if h, ok := p.parts[id]; ok {
		return api.FateHeld, h.T
	}
	return api.FateNone, 0
}
