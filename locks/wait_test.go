package locks

import (
	"math/rand/v2"
	"slices"
	"testing"

	"moiety/api"
)

// play is a table of which it is minded who asked and hasn't ended.
type play struct {
	*testing.T
	mixOf
	t     *Table
	live  map[int]bool
	known []int // all keys that are chosen
}

func newPlay(t *testing.T, m mixOf) *play {
	return &play{t, m, made(t), map[int]bool{}, m.allKeys()}
}

// eldest is the eldest of all that asked and haven't ended; 0: there is none.
func (p *play) eldest() int {
	first := 0
	for tx := range p.live {
		if first == 0 || tx < first {
			first = tx
		}
	}
	return first
}

// meet is whether two go together.
func meet(a, b api.Hold) bool { return a.Tx == b.Tx || !a.Write && !b.Write }

// ask asks for a key; the eldest of all is granted it at once, and nobody wounds it.
func (p *play) ask(tx, key int, write bool) api.Turn {
	p.Helper()
	eldest := p.eldest()
	x, err := p.t.Ask(tx, key, write)
	if err != api.OK {
		return x
	}
	p.live[tx] = true
	if p.eldest() == tx && !x.Granted {
		p.Errorf("Ask(%d, %d, %v), the eldest: %s", tx, key, write, turn(x))
	}
	if eldest <= tx && slices.Contains(x.Wounded, eldest) {
		p.Errorf("Ask(%d, %d, %v): the eldest, %d, is wounded", tx, key, write, eldest)
	}
	for _, w := range x.Wounded {
		if w <= tx || !p.live[w] || !p.t.Dead(w) || p.has(w) {
			p.Errorf("Ask(%d, %d, %v): %s", tx, key, write, turn(x))
		}
	}
	p.got(x.Woken)
	if h, holds := p.holds(tx, key); holds && (h.Write || !write) != x.Granted || !holds && x.Granted {
		p.Errorf("Ask(%d, %d, %v): %s, holds %v", tx, key, write, turn(x), h)
	}
	return x
}

// end ends a transaction: it isn't dead, and has nothing, then.
func (p *play) end(tx int) {
	p.Helper()
	l, err := p.t.End(tx)
	delete(p.live, tx)
	if err != api.OK || p.t.Dead(tx) || p.has(tx) {
		p.Errorf("End(%d): %v, %d", tx, l, err)
	}
	p.got(l)
}

// got is whether all that were given keys have them, and wait no more, each told once, by keys, then by transactions.
func (p *play) got(l []api.Grant) {
	p.Helper()
	for k, g := range l {
		if _, holds := p.holds(g.Tx, g.Key); !holds || p.waits(g.Tx) {
			p.Error("was not given it:", g)
		}
		if k > 0 && (l[k-1].Key > g.Key || l[k-1].Key == g.Key && l[k-1].Tx >= g.Tx) {
			p.Error("not in order:", l)
		}
	}
}

// holds is what a transaction holds of a key.
func (p *play) holds(tx, key int) (api.Hold, bool) {
	l := p.t.Holds(key)
	k := slices.IndexFunc(l, func(h api.Hold) bool { return h.Tx == tx })
	if k < 0 {
		return api.Hold{}, false
	}
	return l[k], true
}

// waits is whether a transaction waits for a key.
func (p *play) waits(tx int) bool {
	return slices.ContainsFunc(p.known, func(key int) bool {
		return slices.ContainsFunc(p.t.Waits(key), func(h api.Hold) bool { return h.Tx == tx })
	})
}

// has is whether a transaction holds a key or waits for one.
func (p *play) has(tx int) bool {
	return p.waits(tx) || slices.ContainsFunc(p.known, func(key int) bool {
		_, holds := p.holds(tx, key)
		return holds
	})
}

// sound holds the table against what follows: who holds goes together, who waits does so for an elder one, for one key, and not in a circle, no key lies idle, and the dead have nothing.
func (p *play) sound() {
	p.Helper()
	behind := map[int][]int{} // by those that wait: for whom they do
	for _, key := range p.known {
		held, waited := p.t.Holds(key), p.t.Waits(key)
		for _, a := range slices.Concat(held, waited) {
			if p.t.Dead(a.Tx) || !p.live[a.Tx] {
				p.Errorf("key %d: %d is dead, or has ended", key, a.Tx)
			}
		}
		for _, a := range held {
			if slices.ContainsFunc(held, func(b api.Hold) bool { return !meet(a, b) }) {
				p.Errorf("key %d: don't go together: %v", key, held)
			}
		}
		for _, w := range waited {
			if behind[w.Tx] != nil {
				p.Errorf("%d waits for two keys", w.Tx)
			}
			behind[w.Tx] = p.inTheWay(w, held, waited)
			if !slices.ContainsFunc(behind[w.Tx], func(tx int) bool { return tx < w.Tx }) {
				p.Errorf("key %d: %v waits for no elder one: %v, %v", key, w, held, waited)
			}
		}
		if len(held) == 0 && len(waited) > 0 {
			p.Errorf("key %d lies idle: %v", key, waited)
		}
	}
	p.noCircle(behind)
}

// inTheWay is who doesn't go together with one that waits: all of those that hold, and the elder ones of those that wait.
func (p *play) inTheWay(w api.Hold, held, waited []api.Hold) []int {
	var l []int
	for _, h := range held {
		if !meet(h, w) {
			l = append(l, h.Tx)
		}
	}
	for _, h := range waited {
		if h.Tx < w.Tx && !meet(h, w) {
			l = append(l, h.Tx)
		}
	}
	return l
}

// noCircle takes those away that wait for nobody who waits, until nobody is left.
func (p *play) noCircle(behind map[int][]int) {
	p.Helper()
	for len(behind) > 0 {
		was := len(behind)
		for w, l := range behind {
			if !slices.ContainsFunc(l, func(tx int) bool { return behind[tx] != nil }) {
				delete(behind, w)
			}
		}
		if len(behind) == was {
			p.Fatal("they wait in a circle:", behind)
		}
	}
}

// over ends all: nobody holds or waits then, and nobody is dead.
func (p *play) over(r *rand.Rand) {
	p.Helper()
	for len(p.live) > 0 {
		var l []int
		for tx := range p.live {
			l = append(l, tx)
		}
		slices.Sort(l)
		p.end(l[r.IntN(len(l))])
		p.sound()
	}
	for _, key := range p.known {
		if len(p.t.Holds(key))+len(p.t.Waits(key)) > 0 {
			p.Error("somebody is left:", p.t.Holds(key), p.t.Waits(key))
		}
	}
	if slices.ContainsFunc(p.allTxs(), p.t.Dead) {
		p.Error("somebody is dead")
	}
}

// P13.4: in plays of any calls, behind each of them.
func TestNobodyWaitsForEver(t *testing.T) {
	r := rand.New(rand.NewPCG(13, 4))
	waited, wounded := 0, 0
	for _, m := range mixes() {
		for range 8 {
			p := newPlay(t, m)
			for range 200 {
				c := m.someCall(r, p.t)
				if c.end && c.tx > 0 {
					p.end(c.tx)
				} else {
					x := p.ask(c.tx, c.key, c.write)
					wounded += len(x.Wounded)
					waited += p.waiting()
				}
				p.sound()
			}
			p.over(r)
		}
	}
	if waited < 5000 || wounded < 1000 {
		t.Error("too few waited, or were wounded:", waited, wounded)
	}
}

// waiting is how many wait.
func (p *play) waiting() int {
	n := 0
	for _, key := range p.known {
		n += len(p.t.Waits(key))
	}
	return n
}

// P13.4: transactions that each want some keys, in any order, and begin anew when they are wounded, all come to their ends, though none ends ahead of having them all.
func TestAllComeToTheirEnds(t *testing.T) {
	r := rand.New(rand.NewPCG(13, 5))
	for _, m := range mixes() {
		for range 10 {
			p := newPlay(t, m)
			wants, got := map[int][]call{}, map[int]int{}
			for tx := 1; tx <= m.txs; tx++ {
				for range 1 + r.IntN(min(2*m.keys, 12)) {
					wants[tx] = append(wants[tx], call{tx: tx, key: 10 * r.IntN(m.keys), write: r.Float64() < m.writes})
				}
			}
			p.toTheEnd(r, wants, got)
			p.sound()
			p.over(r)
		}
	}
}

// toTheEnd lets any transaction that doesn't wait ask for the next one of its wants, end if it has them all, or end and begin anew if it is dead.
func (p *play) toTheEnd(r *rand.Rand, wants map[int][]call, got map[int]int) {
	p.Helper()
	for steps := 0; len(wants) > 0; steps++ {
		if steps > 200000 {
			p.Fatal("they come to no end:", len(wants))
		}
		l := p.ready(wants)
		if len(l) == 0 {
			p.Fatal("all that are left wait:", len(wants))
		}
		tx := l[r.IntN(len(l))]
		switch {
		case p.t.Dead(tx):
			p.end(tx)
			got[tx] = 0
		case got[tx] == len(wants[tx]):
			p.hasAll(tx, wants[tx])
			p.end(tx)
			delete(wants, tx)
		default:
			c := wants[tx][got[tx]]
			p.ask(tx, c.key, c.write)
			got[tx]++ // granted now, or when it waits no more
		}
	}
}

// ready is those that want keys and don't wait, rising.
func (p *play) ready(wants map[int][]call) []int {
	waits := map[int]bool{}
	for _, key := range p.known {
		for _, w := range p.t.Waits(key) {
			waits[w.Tx] = true
		}
	}
	var l []int
	for tx := range wants {
		if !waits[tx] {
			l = append(l, tx)
		}
	}
	slices.Sort(l)
	return l
}

// hasAll is whether a transaction that comes to its end holds all that it wanted, as it wanted it.
func (p *play) hasAll(tx int, wants []call) {
	p.Helper()
	for _, c := range wants {
		if h, holds := p.holds(tx, c.key); !holds || c.write && !h.Write {
			p.Errorf("%v: holds %v, %v", c, h, holds)
		}
	}
}

// P13.4: the eldest has each key that it asks for at once, whatever the others hold and wait for.
func TestEldestHasAll(t *testing.T) {
	r := rand.New(rand.NewPCG(13, 6))
	for _, m := range mixes() {
		for range 10 {
			p := newPlay(t, m)
			for range 100 {
				p.ask(2+r.IntN(m.txs), 10*r.IntN(m.keys), r.Float64() < m.writes)
			}
			for k := range m.keys {
				isWrite := r.IntN(2) == 0
				if x := p.ask(1, 10*k, isWrite); !x.Granted {
					t.Errorf("Ask(1, %d, %v): %s", 10*k, isWrite, turn(x))
				}
				p.ask(2+r.IntN(m.txs), 10*r.IntN(m.keys), write)
				if _, holds := p.holds(1, 10*k); !holds || p.t.Dead(1) {
					t.Error("the eldest lost a key", 10*k)
				}
				p.sound()
			}
			p.over(r)
		}
	}
}

// P13.4: those that ask for the same keys in unlike orders, by which they would wait in a circle, do not.
func TestNoCircle(t *testing.T) {
	d := begun(t)
	for tx := 1; tx <= 5; tx++ {
		d.ask(tx, tx, write, "granted")
	}
	for tx := 5; tx >= 2; tx-- {
		d.ask(tx, tx-1, write, "waits")
	}
	d.ask(1, 5, write, "granted; wounded 5")
	d.end(1, "2 1")
	d.end(2, "3 2")
	d.end(3, "4 3")
	d.end(4, "")
	d.end(5, "")

	d = begun(t)
	d.ask(1, 7, read, "granted")
	d.ask(2, 7, read, "granted")
	d.ask(2, 7, write, "waits")
	d.ask(1, 7, write, "granted; wounded 2")
	d.end(1, "")
}
