package locks

import (
	"cmp"
	"slices"

	"moiety/api"
)

// claim is that a transaction holds a key, or waits for it.
type claim struct {
	tx, key     int
	write, held bool
}

// together is whether two go together.
func (a claim) together(b claim) bool { return a.tx == b.tx || !a.write && !b.write }

// plain is a table as the chapter's words have it: all claims, and who is dead.
type plain struct {
	l    []claim
	dead []int
}

func newPlain() *plain { return &plain{} }

// some is the claims that are as asked, by transactions.
func (p *plain) some(is func(claim) bool) []claim {
	var l []claim
	for _, c := range p.l {
		if is(c) {
			l = append(l, c)
		}
	}
	slices.SortFunc(l, func(a, b claim) int { return cmp.Compare(a.tx, b.tx) })
	return l
}

// drop takes all claims of a transaction away.
func (p *plain) drop(tx int) {
	p.l = slices.DeleteFunc(p.l, func(c claim) bool { return c.tx == tx })
}

func (p *plain) askFault(tx, key int) api.Errno {
	if tx <= 0 {
		return api.ErrLocksTx
	}
	if key < 0 || key > 8191 {
		return api.ErrLocksKey
	}
	if slices.Contains(p.dead, tx) {
		return api.ErrLocksDead
	}
	if slices.ContainsFunc(p.l, func(c claim) bool { return c.tx == tx && !c.held }) {
		return api.ErrLocksWaits
	}
	return api.OK
}

func (p *plain) Ask(tx, key int, write bool) (api.Turn, api.Errno) {
	if err := p.askFault(tx, key); err != api.OK {
		return api.Turn{}, err
	}
	ask := claim{tx: tx, key: key, write: write}
	if slices.ContainsFunc(p.l, func(c claim) bool { return c.tx == tx && c.key == key && (c.write || !write) }) {
		return api.Turn{Granted: true}, api.OK
	}
	var turn api.Turn
	for _, c := range p.some(func(c claim) bool { return c.key == key && c.held && !c.together(ask) && c.tx > tx }) {
		turn.Wounded = append(turn.Wounded, c.tx)
		p.dead = append(p.dead, c.tx)
		p.drop(c.tx)
	}
	p.l = append(p.l, ask)
	for _, g := range p.give() {
		if g == (api.Grant{Tx: tx, Key: key}) {
			turn.Granted = true
		} else {
			turn.Woken = append(turn.Woken, g)
		}
	}
	return turn, api.OK
}

func (p *plain) End(tx int) ([]api.Grant, api.Errno) {
	if tx <= 0 {
		return nil, api.ErrLocksTx
	}
	p.drop(tx)
	p.dead = slices.DeleteFunc(p.dead, func(d int) bool { return d == tx })
	return p.give(), api.OK
}

// give gives keys to those that wait: to all that do, for each key there is.
func (p *plain) give() []api.Grant {
	var l []api.Grant
	for _, key := range p.keys() {
		for _, w := range p.some(func(c claim) bool { return c.key == key && !c.held }) {
			inTheWay := func(c claim) bool { return c.key == key && (c.held || c.tx < w.tx) && !c.together(w) }
			if slices.ContainsFunc(p.l, inTheWay) {
				continue
			}
			p.l = slices.DeleteFunc(p.l, func(c claim) bool { return c.key == key && c.tx == w.tx })
			w.held = true
			p.l = append(p.l, w)
			l = append(l, api.Grant{Tx: w.tx, Key: key})
		}
	}
	return l
}

// keys is the keys that somebody holds or waits for, rising.
func (p *plain) keys() []int {
	var l []int
	for _, c := range p.l {
		l = append(l, c.key)
	}
	slices.Sort(l)
	return slices.Compact(l)
}

// told is claims as they are told of.
func told(l []claim) []api.Hold {
	var all []api.Hold
	for _, c := range l {
		all = append(all, api.Hold{Tx: c.tx, Write: c.write})
	}
	return all
}

func (p *plain) Holds(key int) []api.Hold {
	return told(p.some(func(c claim) bool { return c.key == key && c.held }))
}

func (p *plain) Waits(key int) []api.Hold {
	return told(p.some(func(c claim) bool { return c.key == key && !c.held }))
}

func (p *plain) Dead(tx int) bool { return slices.Contains(p.dead, tx) }
