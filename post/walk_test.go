package post

import (
	"math"
	"math/rand/v2"
	"slices"
	"strconv"
	"testing"

	"moiety/api"
)

// plain is a net as the chapter's words have it: all that was ever under way, in order, some of it gone.
type plain struct {
	nodes int
	all   []entry
	next  int
	off   [64]bool
}

// entry is a letter or a copy of one, and whether it is gone.
type entry struct {
	l    letter
	gone bool
}

func plainly(nodes int) *plain { return &plain{nodes: nodes, next: 1} }

// isNode is whether a number is from 0 to nodes-1.
func (p *plain) isNode(node int) bool {
	for k := range p.nodes {
		if k == node {
			return true
		}
	}
	return false
}

// at is what stands at a place: that ahead of which so many others are that aren't gone; nil, if there is none.
func (p *plain) at(i int) *entry {
	for k := range p.all {
		if p.all[k].gone {
			continue
		}
		if i == 0 {
			return &p.all[k]
		}
		i--
	}
	return nil
}

// left is all that isn't gone.
func (p *plain) left() (l []letter) {
	for _, e := range p.all {
		if !e.gone {
			l = append(l, e.l)
		}
	}
	return l
}

func (p *plain) Send(from, to int, m string) (int, api.Errno) {
	if !p.isNode(from) || !p.isNode(to) {
		return 0, api.ErrPostNodes
	}
	if len(p.left()) >= 1000 {
		return 0, api.ErrPostFull
	}
	p.all = append(p.all, entry{l: letter{p.next, from, to, m}})
	p.next++
	return p.next - 1, api.OK
}

func (p *plain) Take(i int) (letter, api.Errno) {
	e := p.at(i)
	if e == nil {
		return letter{}, api.ErrPostNone
	}
	if p.off[e.l.From] || p.off[e.l.To] {
		return letter{}, api.ErrPostCut
	}
	e.gone = true
	return e.l, api.OK
}

func (p *plain) Copy(i int) api.Errno {
	e := p.at(i)
	if e == nil {
		return api.ErrPostNone
	}
	if len(p.left()) >= 1000 {
		return api.ErrPostFull
	}
	p.all = append(p.all, entry{l: e.l})
	return api.OK
}

func (p *plain) Lose(i int) api.Errno {
	e := p.at(i)
	if e == nil {
		return api.ErrPostNone
	}
	e.gone = true
	return api.OK
}

func (p *plain) Cut(node int, off bool) api.Errno {
	if !p.isNode(node) {
		return api.ErrPostNodes
	}
	p.off[node] = off
	return api.OK
}

func (p *plain) Purge(node int) api.Errno {
	if !p.isNode(node) {
		return api.ErrPostNodes
	}
	for k := range p.all {
		if p.all[k].l.To == node {
			p.all[k].gone = true
		}
	}
	return api.OK
}

func (p *plain) Letters() []letter { return p.left() }

// player is what both a net and a plain one can be asked.
type player interface {
	Send(from, to int, m string) (int, api.Errno)
	Take(i int) (letter, api.Errno)
	Copy(i int) api.Errno
	Lose(i int) api.Errno
	Cut(node int, off bool) api.Errno
	Purge(node int) api.Errno
	Letters() []letter
}

// The kinds of calls.
const (
	kindSend = iota
	kindTake
	kindCopy
	kindLose
	kindCut
	kindPurge
	kinds
)

// call is one call of any kind, by arguments of any kind: n is a node or a place, to another node.
type call struct {
	kind, n, to int
	off         bool
	m           string
}

// answer is what a call answers.
type answer struct {
	id  int
	l   letter
	err api.Errno
}

func (k call) of(n player) (a answer) {
	switch k.kind {
	case kindSend:
		a.id, a.err = n.Send(k.n, k.to, k.m)
	case kindTake:
		a.l, a.err = n.Take(k.n)
	case kindCopy:
		a.err = n.Copy(k.n)
	case kindLose:
		a.err = n.Lose(k.n)
	case kindCut:
		a.err = n.Cut(k.n, k.off)
	case kindPurge:
		a.err = n.Purge(k.n)
	}
	return a
}

// anyOf is any number from 0 to n-1, and seldom one that isn't.
func anyOf(r *rand.Rand, n int) int {
	if n == 0 || r.IntN(25) == 0 {
		return noneOf(n)[r.IntN(len(noneOf(n)))]
	}
	return r.IntN(n)
}

// someCall is any call of a net with so many nodes and letters under way: for the most part one that may be.
func someCall(r *rand.Rand, nodes, letters int) call {
	kind := []int{kindSend, kindSend, kindSend, kindTake, kindTake, kindCopy, kindLose, kindCut, kindPurge}[r.IntN(9)]
	k := call{kind: kind, to: anyOf(r, nodes), off: r.IntN(3) == 0, m: strconv.Itoa(r.IntN(5))}
	switch kind {
	case kindSend, kindCut, kindPurge:
		k.n = anyOf(r, nodes)
	default:
		k.n = anyOf(r, letters)
	}
	if kind == kindPurge && r.IntN(3) > 0 { // else few letters live long
		k.kind = kindSend
	}
	return k
}

// both asks a net and a plain one, and holds what they answer, and all that is under way then, against each other.
func both(t *testing.T, n *Net[string], p *plain, k call) answer {
	t.Helper()
	got, want := k.of(n), k.of(p)
	if got != want {
		t.Fatalf("%+v: %+v, want %+v", k, got, want)
	}
	under(t, n, p.Letters()...)
	return got
}

// P9.1: any calls, right and wrong ones, answer as the chapter's words have it, and leave the net so.
func TestAnyCalls(t *testing.T) {
	r := rand.New(rand.NewPCG(9, 1))
	errs, done := map[api.Errno]int{}, [kinds]int{}
	for round := range 400 {
		nodes := []int{1, 2, 3, 5, 64}[round%5]
		n, p := made(t, nodes), plainly(nodes)
		for range 120 {
			k := someCall(r, nodes, len(n.Letters()))
			got := both(t, n, p, k)
			errs[got.err]++
			if got.err == api.OK {
				done[k.kind]++
			}
		}
	}
	for _, err := range []api.Errno{api.OK, api.ErrPostNodes, api.ErrPostNone, api.ErrPostCut} {
		if errs[err] < 500 {
			t.Error("too few of", err, errs)
		}
	}
	for kind, count := range done {
		if count < 500 {
			t.Error("too few were done of kind", kind, done)
		}
	}
}

// P9.1: any calls of nets that are all but full.
func TestAnyCallsNearlyFull(t *testing.T) {
	r := rand.New(rand.NewPCG(9, 2))
	errs := map[api.Errno]int{}
	for range 20 {
		n, p := made(t, 64), plainly(64)
		for k := range most - 3 {
			c := call{kind: kindSend, n: k % 64, to: k / 64, m: "m"}
			if got := c.of(n); got != c.of(p) || got.err != api.OK {
				t.Fatal(k, got)
			}
		}
		for range 100 {
			k := someCall(r, 64, len(n.Letters()))
			if k.kind == kindPurge { // else it would soon be far from full
				k.kind = kindCopy
			}
			errs[both(t, n, p, k).err]++
		}
	}
	if errs[api.ErrPostFull] < 300 || errs[api.OK] < 300 {
		t.Error("too few are full, or aren't:", errs)
	}
}

// P1, P9.1: every call answers, at all arguments, of nets that are empty, begun, cut off and full; beside an error all else is noughts, and nothing is changed.
func TestAllAnswer(t *testing.T) {
	for _, letters := range []int{0, 1, 5, most} {
		for _, off := range []bool{true, false} {
			n, _ := lettered(t, letters)
			cut(t, n, 0, off, api.OK)
			for _, x := range slices.Concat(noneOf(8), noneOf(letters), []int{0, 1, 7, 4, letters - 1}) {
				for kind := range kinds {
					for _, to := range []int{x, 0, math.MinInt, math.MaxInt} {
						was := n.Letters()
						got := call{kind: kind, n: x, to: to, off: off, m: "m"}.of(n)
						if got.err != api.OK && (got != answer{err: got.err} || !slices.Equal(n.Letters(), was)) {
							t.Error(kind, x, to, got)
						}
					}
				}
			}
		}
	}
}

// refusedCall is a call that is refused, if there is one of the kind of what is wrong.
func refusedCall(r *rand.Rand, nodes, letters int) call {
	node, place := noneOf(nodes)[r.IntN(13)], noneOf(letters)[r.IntN(13)]
	switch r.IntN(12) {
	case 0:
		return call{kind: kindSend, n: node, to: r.IntN(nodes), m: "m"}
	case 1:
		return call{kind: kindSend, n: r.IntN(nodes), to: node, m: "m"}
	case 2:
		return call{kind: kindCut, n: node, off: r.IntN(2) == 0}
	case 3:
		return call{kind: kindPurge, n: node}
	case 4:
		return call{kind: kindTake, n: place}
	case 5:
		return call{kind: kindCopy, n: place}
	case 6:
		return call{kind: kindLose, n: place}
	}
	return call{kind: kindTake, n: r.IntN(letters + 1)} // of nodes that are cut off, maybe
}

// P9.1: a call that is refused leaves the net as it was: it goes on as one that never saw the call.
func TestRefusedCallsChangeNothing(t *testing.T) {
	r := rand.New(rand.NewPCG(9, 3))
	refused := map[api.Errno]int{}
	for range 200 {
		nodes := 1 + r.IntN(64)
		n, p := made(t, nodes), plainly(nodes)
		for range 60 {
			both(t, n, p, someCall(r, nodes, len(n.Letters())))
			k := refusedCall(r, nodes, len(n.Letters()))
			twin := *p
			twin.all = slices.Clone(p.all)
			want := k.of(&twin)
			if want.err == api.OK { // it would be done
				continue
			}
			if got := k.of(n); got != want {
				t.Fatalf("%+v: %+v, want %+v", k, got, want)
			}
			under(t, n, p.Letters()...)
			refused[want.err]++
		}
	}
	if refused[api.ErrPostNodes] < 500 || refused[api.ErrPostNone] < 500 || refused[api.ErrPostCut] < 300 {
		t.Error("too few refused:", refused)
	}
}

// history is what became of all letters with one number.
type history struct {
	sent                        letter
	copies, taken, lost, purged int
}

// note keeps what came of a call in the histories; l is what was under way ahead of it.
func note(h map[int]*history, k call, got answer, l []letter) {
	if got.err != api.OK {
		return
	}
	switch k.kind {
	case kindSend:
		h[got.id] = &history{sent: letter{got.id, k.n, k.to, k.m}}
	case kindTake:
		h[got.l.ID].taken++
	case kindCopy:
		h[l[k.n].ID].copies++
	case kindLose:
		h[l[k.n].ID].lost++
	case kindPurge:
		for _, x := range l {
			if x.To == k.n {
				h[x.ID].purged++
			}
		}
	}
}

// P9.2: in plays of any acts, what is taken was sent, as it was sent; what is neither lost, purged nor copied is taken once at most; and what was sent, or copied, is taken, lost, purged or under way, each just once.
func TestTakenAsSent(t *testing.T) {
	r := rand.New(rand.NewPCG(9, 4))
	once, never, copied := 0, 0, 0
	for range 600 {
		nodes := 1 + r.IntN(6)
		n, h := made(t, nodes), map[int]*history{}
		for step := range 150 {
			l := n.Letters()
			k := someCall(r, nodes, len(l))
			if k.kind == kindSend {
				k.m += " of " + strconv.Itoa(step)
			}
			got := k.of(n)
			if k.kind == kindTake && got.err == api.OK && (h[got.l.ID] == nil || h[got.l.ID].sent != got.l) {
				t.Fatalf("taken %v, which wasn't sent so", got.l)
			}
			note(h, k, got, l)
		}
		under := map[int]int{}
		for _, l := range n.Letters() {
			under[l.ID]++
		}
		for id, x := range h {
			if x.copies == 0 && x.lost == 0 && x.purged == 0 && x.taken > 1 {
				t.Fatalf("%v: taken %d times", x.sent, x.taken)
			}
			if x.taken+x.lost+x.purged+under[id] != 1+x.copies {
				t.Fatalf("%d under way of %+v", under[id], x)
			}
			switch {
			case x.copies == 0 && x.taken == 1:
				once++
			case x.lost+x.purged == 1+x.copies:
				never++
			case x.taken > 1:
				copied++
			}
		}
	}
	if once < 2000 || never < 2000 || copied < 500 {
		t.Error("too few letters:", once, never, copied)
	}
}

// P9.2: letters that are neither lost, purged nor copied are taken once each, in whatever order they are asked for, and whatever is cut off between.
func TestTakenOnceEach(t *testing.T) {
	r := rand.New(rand.NewPCG(9, 5))
	for range 50 {
		n, all := square(t, 8)
		var got []letter
		for range 10000 { // far more than it takes
			cut(t, n, r.IntN(8), r.IntN(3) == 0, api.OK)
			if l, err := n.Take(r.IntN(len(all))); err == api.OK {
				got = append(got, l)
			}
		}
		slices.SortFunc(got, func(a, b letter) int { return a.ID - b.ID })
		alike(t, "taken", got, all)
	}
}
