package post

import (
	"math"
	"slices"
	"testing"

	"moiety/api"
)

// spoil changes letters, and what stands in the spare room behind them.
func spoil(l []letter) {
	l = l[:cap(l)]
	for k := range l {
		l[k] = letter{-1, -1, -1, "spoilt"}
	}
}

// P9.1: letters that were told are the asker's: what he changes, or puts behind them, neither the net sees, nor another asker; with spare room in the net and without it.
func TestLettersTold(t *testing.T) {
	for _, letters := range []int{0, 1, 2, 3, 5, 8, 9, most} {
		n, all := lettered(t, letters)
		for ; len(all) > 0; all = all[1:] {
			first, second := n.Letters(), n.Letters()
			_ = append(first, letter{-1, -1, -1, "behind"})
			spoil(first)
			alike(t, "told", second, all)
			under(t, n, all...)
			take(t, n, 0, all[0])
		}
		_ = append(n.Letters(), letter{-1, -1, -1, "behind none"})
		spoil(n.Letters())
		under(t, n)
		send(t, n, letter{letters + 1, 0, 1, "next"})
		under(t, n, letter{letters + 1, 0, 1, "next"})
	}
}

// P9.1: letters that were told stay as they were, whatever comes later; with spare room in the net and without it.
func TestLettersToldEarlier(t *testing.T) {
	for _, letters := range []int{1, 2, 3, 4, 7, 8, 9, 100} {
		for _, act := range []func(n *Net[string]){
			func(n *Net[string]) { n.Send(0, 1, "later") },
			func(n *Net[string]) { n.Take(0) },
			func(n *Net[string]) { n.Take(letters - 1); n.Send(0, 1, "later") },
			func(n *Net[string]) { n.Lose(0); n.Copy(0) },
			func(n *Net[string]) { n.Purge(0) },
			func(n *Net[string]) { n.Purge(0); n.Purge(1); n.Send(2, 2, "later") },
		} {
			n, all := lettered(t, letters)
			l := n.Letters()
			act(n)
			later := n.Letters()
			alike(t, "told", l, all)
			spoil(l)
			under(t, n, later...)
		}
	}
}

// same is whether two things are the same, for things that can be compared.
func same[T comparable](a, b T) bool { return a == b }

// said holds a net of any thing against what was said in it: each thing is taken as it was sent, also as a copy, and beside an error there is none.
func said[T any](t *testing.T, same func(a, b T) bool, things ...T) {
	t.Helper()
	n, err := New[T](2)
	if n == nil || err != api.OK {
		t.Fatal(n, err)
	}
	for k, m := range things {
		if id, err := n.Send(k%2, 1, m); id != k+1 || err != api.OK {
			t.Errorf("Send of %v = %d, %d", m, id, err)
		}
		if err := n.Copy(k); err != api.OK {
			t.Errorf("Copy of %v = %d", m, err)
		}
		l, err := n.Take(k)
		if l.ID != k+1 || l.From != k%2 || l.To != 1 || !same(l.M, m) || err != api.OK {
			t.Errorf("Take of %v = %v, %d", m, l, err)
		}
	}
	var none T
	if l, err := n.Take(len(things)); l.ID != 0 || l.From != 0 || l.To != 0 || !same(l.M, none) || err != api.ErrPostNone {
		t.Errorf("no letter: %v, %d", l, err)
	}
	n.Cut(1, true)
	for k := range things {
		if l, err := n.Take(k); l.ID != 0 || l.From != 0 || l.To != 0 || !same(l.M, none) || err != api.ErrPostCut {
			t.Errorf("cut off: %v, %d", l, err)
		}
	}
	for k, l := range n.Letters() {
		if l.ID != k+1 || l.From != k%2 || l.To != 1 || !same(l.M, things[k]) {
			t.Errorf("under way: %v, want %v", l, things[k])
		}
	}
	if n, err := New[T](0); n != nil || err != api.ErrPostNodes {
		t.Error(n, err)
	}
}

// bitwise is whether two floats are the same, bit by bit.
func bitwise(a, b float64) bool { return math.Float64bits(a) == math.Float64bits(b) }

// P9.1: a net is of any thing that is said: what can be compared and what can't, what is nothing at all, what another net says.
func TestUnlikeThings(t *testing.T) {
	said(t, same[int], 0, -1, math.MinInt, math.MaxInt)
	said(t, same[string], "", "a", "a", "\x00\xff")
	said(t, same[bool], true, false)
	said(t, bitwise, math.NaN(), math.Copysign(0, -1), 0, math.Inf(-1), math.Float64frombits(0x7ff8000000000123))
	said(t, same[struct{}], struct{}{}, struct{}{})
	said(t, same[[3]int], [3]int{1, 2, 3}, [3]int{})
	said(t, same[api.Msg], api.Msg{}, api.Msg{Kind: api.MsgHold, Part: api.Part{ID: 1, Account: 2, N: 3, Pays: true}, Yes: true, T: 4})
	said(t, slices.Equal[[]byte], nil, []byte{}, []byte("abc"))
	said(t, func(a, b map[int]int) bool { return len(a) == len(b) && a[1] == b[1] }, nil, map[int]int{1: 2})
	said[any](t, same[any], nil, 1, "a", api.OK, letter{1, 2, 3, "m"})
	said(t, same[Letter[int]], Letter[int]{1, 0, 1, 7}, Letter[int]{})
	said(t, same[*int], nil, new(int))
	said(t, func(a, b func() int) bool { return (a == nil) == (b == nil) && (a == nil || a() == b()) }, nil, func() int { return 3 })
	word := func(a, b api.Word) bool {
		return a.Kind == b.Kind && a.B == b.B && a.Vote == b.Vote && slices.Equal(a.Votes, b.Votes)
	}
	said(t, word, api.Word{}, api.Word{Kind: api.WordPromise, B: 3, Votes: []api.Vote{{Slot: 1, B: 2, V: "v"}}})
}

// P9.1: nets of unlike things, and of like ones, side by side know nothing of each other: neither letters, nor numbers, nor who is cut off.
func TestNetsStandAlone(t *testing.T) {
	a, b := made(t, 2), made(t, 2)
	c, err := New[int](3)
	if err != api.OK {
		t.Fatal(err)
	}
	x, y := letter{1, 0, 1, "x"}, letter{2, 1, 0, "y"}
	send(t, a, x)
	send(t, a, y)
	cut(t, a, 1, true, api.OK)
	under(t, b)
	untaken(t, b, 0, api.ErrPostNone)
	z := letter{1, 1, 0, "z"}
	send(t, b, z)
	if id, err := c.Send(2, 1, 9); id != 1 || err != api.OK {
		t.Error(id, err)
	}
	cut(t, b, 1, false, api.OK)
	untaken(t, a, 0, api.ErrPostCut)
	purge(t, b, 1, api.OK)
	under(t, a, x, y)
	replicate(t, a, 0, api.OK)
	purge(t, a, 0, api.OK)
	under(t, a, x, x)
	take(t, b, 0, z)
	if l, err := c.Take(0); l != (Letter[int]{1, 2, 1, 9}) || err != api.OK {
		t.Error(l, err)
	}
	unsent(t, a, 2, 0, api.ErrPostNodes)
	send(t, b, letter{2, 0, 1, "b"})
	send(t, a, letter{3, 1, 1, "a"})
}

// P9.1: one net's room is its own.
func TestRoomStandsAlone(t *testing.T) {
	a, _ := lettered(t, most)
	b, all := lettered(t, most-1)
	unsent(t, a, 0, 0, api.ErrPostFull)
	send(t, b, letter{most, 0, 0, "m"})
	under(t, b, append(all, letter{most, 0, 0, "m"})...)
}
