package post

import (
	"slices"
	"strconv"
	"testing"

	"moiety/api"
)

// square is a net with a letter from each node to each node, itself among them.
func square(t *testing.T, nodes int) (*Net[string], []letter) {
	t.Helper()
	n := made(t, nodes)
	var all []letter
	for from := range nodes {
		for to := range nodes {
			all = append(all, letter{len(all) + 1, from, to, strconv.Itoa(from) + "to" + strconv.Itoa(to)})
			send(t, n, all[len(all)-1])
		}
	}
	return n, all
}

// takeAll asks for each letter, and holds what is handed out, and what is refused, against which nodes are cut off.
func takeAll(t *testing.T, n *Net[string], all []letter, off ...int) {
	t.Helper()
	i := 0
	var rest []letter
	for _, l := range all {
		if slices.Contains(off, l.From) || slices.Contains(off, l.To) {
			untaken(t, n, i, api.ErrPostCut)
			rest = append(rest, l)
			i++
			continue
		}
		take(t, n, i, l)
	}
	untaken(t, n, i, api.ErrPostNone)
	under(t, n, rest...)
}

// P9.1: of each node that is cut off no letter is taken, be it From or To or both; all others are.
func TestCut(t *testing.T) {
	n, all := square(t, 5)
	takeAll(t, n, all)
	for a := range 5 {
		n, all := square(t, 5)
		cut(t, n, a, true, api.OK)
		under(t, n, all...)
		takeAll(t, n, all, a)
		for b := range 5 {
			n, all := square(t, 5)
			cut(t, n, a, true, api.OK)
			cut(t, n, b, true, api.OK)
			takeAll(t, n, all, a, b)
		}
	}
}

// P9.1: a node is cut off just if it was last said that it is: said twice counts as once, either way.
func TestCutOffAndOn(t *testing.T) {
	for _, said := range [][]bool{{false}, {false, false}, {true}, {true, true}, {true, false}, {true, true, false}, {true, false, false}, {true, false, true}, {false, true}, {true, false, true, false}} {
		n, all := square(t, 3)
		cut(t, n, 2, true, api.OK)
		for _, off := range said {
			cut(t, n, 1, off, api.OK)
		}
		under(t, n, all...)
		if said[len(said)-1] {
			takeAll(t, n, all, 1, 2)
		} else {
			takeAll(t, n, all, 2)
		}
	}
}

// P9.1: what couldn't be taken is under way till its nodes aren't cut off any more.
func TestCutForATime(t *testing.T) {
	n, l := made(t, 3), letter{1, 0, 1, "m"}
	send(t, n, l)
	cut(t, n, 0, true, api.OK)
	cut(t, n, 1, true, api.OK)
	untaken(t, n, 0, api.ErrPostCut)
	cut(t, n, 0, false, api.OK)
	untaken(t, n, 0, api.ErrPostCut)
	cut(t, n, 0, true, api.OK)
	cut(t, n, 1, false, api.OK)
	untaken(t, n, 0, api.ErrPostCut)
	cut(t, n, 0, false, api.OK)
	take(t, n, 0, l)
	under(t, n)
}

// P9.1: all nodes can be cut off; that there is no such letter is told ahead of it.
func TestCutAll(t *testing.T) {
	for _, nodes := range []int{1, 2, 8} {
		n, all := square(t, nodes)
		for node := range nodes {
			cut(t, n, node, true, api.OK)
		}
		for i := range all {
			untaken(t, n, i, api.ErrPostCut)
		}
		for _, i := range noneOf(len(all)) {
			untaken(t, n, i, api.ErrPostNone)
		}
		under(t, n, all...)
		for node := range nodes {
			cut(t, n, node, false, api.OK)
		}
		takeAll(t, n, all)
	}
}

// P9.1: letters from and to a node that is cut off can be sent, copied, lost and purged like others.
func TestCutRefusesTakeAlone(t *testing.T) {
	n := made(t, 3)
	a, b, c := letter{1, 0, 1, "a"}, letter{2, 1, 2, "b"}, letter{3, 1, 1, "c"}
	cut(t, n, 1, true, api.OK)
	for _, l := range []letter{a, b, c} {
		send(t, n, l)
	}
	for i := range 3 {
		replicate(t, n, i, api.OK)
	}
	under(t, n, a, b, c, a, b, c)
	lose(t, n, 1, api.OK)
	lose(t, n, 0, api.OK)
	under(t, n, c, a, b, c)
	purge(t, n, 2, api.OK)
	under(t, n, c, a, c)
	purge(t, n, 1, api.OK)
	under(t, n)
	send(t, n, letter{4, 0, 1, "d"})
	untaken(t, n, 0, api.ErrPostCut)
}

// P9.1: Purge takes all letters to a node away, one behind the other and copies among them, and no letter from it to another one; those that stay keep their order.
func TestPurge(t *testing.T) {
	for node := range 4 {
		n, all := square(t, 4)
		for _, i := range []int{5, 0, 15, 7, 13} {
			replicate(t, n, i, api.OK)
			all = append(all, all[i])
		}
		var want []letter
		for _, l := range all {
			if l.To != node {
				want = append(want, l)
			}
		}
		for range 2 {
			purge(t, n, node, api.OK)
			under(t, n, want...)
		}
		takeAll(t, n, want)
	}
}

// P9.1: Purge of letters side by side, from and to the node.
func TestPurgeSideBySide(t *testing.T) {
	n := made(t, 3)
	l := []letter{{1, 0, 1, "a"}, {2, 1, 0, "b"}, {3, 0, 1, "a"}, {4, 1, 1, "c"}, {5, 2, 1, "d"}, {6, 1, 2, "e"}, {7, 0, 2, "f"}, {8, 2, 1, "g"}}
	for _, x := range l {
		send(t, n, x)
	}
	purge(t, n, 1, api.OK)
	under(t, n, l[1], l[5], l[6])
	take(t, n, 1, l[5])
	untaken(t, n, 2, api.ErrPostNone)
}

// P9.1: Purge of all letters, of none, and of a net that has none.
func TestPurgeAllAndNone(t *testing.T) {
	for _, letters := range []int{0, 1, 2, most} {
		n := made(t, 2)
		var all []letter
		for k := range letters {
			all = append(all, letter{k + 1, k % 2, 1, "m"})
			send(t, n, all[k])
		}
		purge(t, n, 0, api.OK)
		under(t, n, all...)
		purge(t, n, 1, api.OK)
		under(t, n)
		untaken(t, n, 0, api.ErrPostNone)
		purge(t, n, 1, api.OK)
		next := letter{letters + 1, 0, 1, "next"}
		send(t, n, next)
		under(t, n, next)
	}
}

// P9.1: Purge neither cuts a node off nor ends that.
func TestPurgeAndCut(t *testing.T) {
	for _, off := range []bool{true, false} {
		n, all := square(t, 2)
		cut(t, n, 1, off, api.OK)
		purge(t, n, 1, api.OK)
		purge(t, n, 0, api.OK)
		for k := range all {
			all[k].ID += len(all)
			send(t, n, all[k])
		}
		if off {
			takeAll(t, n, all, 1)
		} else {
			takeAll(t, n, all)
		}
	}
}

// P9.1: letters have the numbers 1, 2, 3 and so on, as they are sent, whatever was refused, copied, taken, lost or purged ahead of them.
func TestNumbers(t *testing.T) {
	n := made(t, 2)
	next := 0
	sent := func() letter {
		t.Helper()
		next++
		l := letter{next, 0, 1, "m"}
		send(t, n, l)
		return l
	}
	a, b := sent(), sent()
	unsent(t, n, 2, 0, api.ErrPostNodes)
	unsent(t, n, 0, -1, api.ErrPostNodes)
	c := sent()
	replicate(t, n, 0, api.OK)
	replicate(t, n, 3, api.OK)
	replicate(t, n, 9, api.ErrPostNone)
	d := sent()
	under(t, n, a, b, c, a, a, d)
	take(t, n, 5, d)
	take(t, n, 0, a)
	untaken(t, n, 4, api.ErrPostNone)
	e := sent()
	lose(t, n, 1, api.OK)
	lose(t, n, 3, api.OK)
	f := sent()
	under(t, n, b, a, a, f)
	cut(t, n, 1, true, api.OK)
	untaken(t, n, 0, api.ErrPostCut)
	g := sent()
	purge(t, n, 1, api.OK)
	under(t, n)
	h := sent()
	under(t, n, h)
	if e.ID != 5 || g.ID != 7 || h.ID != 8 {
		t.Error(e, g, h)
	}
}

// P9.1: refused for want of room, a letter uses up no number.
func TestNumbersOfAFullNet(t *testing.T) {
	n, all := lettered(t, most)
	for range 5 {
		unsent(t, n, 0, 1, api.ErrPostFull)
		replicate(t, n, 0, api.ErrPostFull)
	}
	take(t, n, 0, all[0])
	send(t, n, letter{most + 1, 0, 1, "m"})
	unsent(t, n, 0, 1, api.ErrPostFull)
	lose(t, n, most-1, api.OK)
	replicate(t, n, 0, api.OK)
	take(t, n, most-1, all[1])
	send(t, n, letter{most + 2, 0, 1, "m"})
	under(t, n, append(slices.Clone(all[1:]), letter{most + 2, 0, 1, "m"})...)
}
