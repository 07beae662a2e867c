package post

import (
	"math"
	"slices"
	"strconv"
	"testing"

	"moiety/api"
)

const most = api.MaxPost

// letter is a letter that says a text.
type letter = Letter[string]

// made is a new net whose letters say texts.
func made(t *testing.T, nodes int) *Net[string] {
	t.Helper()
	n, err := New[string](nodes)
	if n == nil || err != api.OK {
		t.Fatalf("New(%d) = %v, %d", nodes, n, err)
	}
	return n
}

// alike holds two lists of letters against each other, and tells where they part.
func alike(t *testing.T, what string, got, want []letter) {
	t.Helper()
	same := 0
	for same < min(len(got), len(want)) && got[same] == want[same] {
		same++
	}
	if same < max(len(got), len(want)) {
		t.Fatalf("%s: %d letters, want %d; from %d on: %v, want %v", what, len(got), len(want), same, few(got[same:]), few(want[same:]))
	}
}

// few is the first ones of many letters.
func few(l []letter) []letter { return l[:min(len(l), 5)] }

// under holds all letters under way against what they are to be.
func under(t *testing.T, n *Net[string], want ...letter) {
	t.Helper()
	alike(t, "under way", n.Letters(), want)
}

// send sends a letter, and holds its number against what that is to be.
func send(t *testing.T, n *Net[string], want letter) {
	t.Helper()
	if id, err := n.Send(want.From, want.To, want.M); id != want.ID || err != api.OK {
		t.Fatalf("Send(%d, %d, %q) = %d, %d, want %d", want.From, want.To, want.M, id, err, want.ID)
	}
}

// unsent sends a letter that is refused.
func unsent(t *testing.T, n *Net[string], from, to int, want api.Errno) {
	t.Helper()
	if id, err := n.Send(from, to, "unsent"); id != 0 || err != want {
		t.Fatalf("Send(%d, %d) = %d, %d, want %d", from, to, id, err, want)
	}
}

// take takes a letter, and holds it against what it is to be.
func take(t *testing.T, n *Net[string], i int, want letter) {
	t.Helper()
	if l, err := n.Take(i); l != want || err != api.OK {
		t.Fatalf("Take(%d) = %v, %d, want %v", i, l, err, want)
	}
}

// untaken asks for a letter that can't be taken.
func untaken(t *testing.T, n *Net[string], i int, want api.Errno) {
	t.Helper()
	if l, err := n.Take(i); l != (letter{}) || err != want {
		t.Fatalf("Take(%d) = %v, %d, want %d", i, l, err, want)
	}
}

// replicate, lose, cut and purge hold what a call answers against what it is to be.
func replicate(t *testing.T, n *Net[string], i int, want api.Errno) {
	t.Helper()
	if err := n.Copy(i); err != want {
		t.Fatalf("Copy(%d) = %d, want %d", i, err, want)
	}
}

func lose(t *testing.T, n *Net[string], i int, want api.Errno) {
	t.Helper()
	if err := n.Lose(i); err != want {
		t.Fatalf("Lose(%d) = %d, want %d", i, err, want)
	}
}

func cut(t *testing.T, n *Net[string], node int, off bool, want api.Errno) {
	t.Helper()
	if err := n.Cut(node, off); err != want {
		t.Fatalf("Cut(%d, %v) = %d, want %d", node, off, err, want)
	}
}

func purge(t *testing.T, n *Net[string], node int, want api.Errno) {
	t.Helper()
	if err := n.Purge(node); err != want {
		t.Fatalf("Purge(%d) = %d, want %d", node, err, want)
	}
}

// noneOf is numbers that aren't from 0 to n-1: those next to them and the ends among them.
func noneOf(n int) []int {
	return []int{-1, -2, -n - 1, n, n + 1, most + n, 1 << 31, -1 << 31, 1 << 32, math.MinInt, math.MinInt + 1, math.MaxInt - 1, math.MaxInt}
}

// lettered is a net of eight nodes with so many letters under way.
func lettered(t *testing.T, letters int) (*Net[string], []letter) {
	t.Helper()
	n := made(t, 8)
	var all []letter
	for k := range letters {
		l := letter{k + 1, k % 8, k / 3 % 8, strconv.Itoa(k)}
		send(t, n, l)
		all = append(all, l)
	}
	return n, all
}

// without is a list without the item at a place.
func without(l []letter, i int) []letter {
	return slices.Concat(l[:i], l[i+1:])
}

// someOf is some places of a list: all of a short one, of a long one the ends and a middle.
func someOf(n int) []int {
	if n > 10 {
		return []int{0, 1, n / 2, n - 2, n - 1}
	}
	var l []int
	for i := range n {
		l = append(l, i)
	}
	return l
}

// P9.1: the chapter's examples.
func TestExamples(t *testing.T) {
	n := made(t, 2)
	a, b := letter{1, 0, 1, "a"}, letter{2, 1, 0, "b"}
	send(t, n, a)
	send(t, n, b)
	replicate(t, n, 0, api.OK)
	take(t, n, 1, b)
	under(t, n, a, a)
	cut(t, n, 1, true, api.OK)
	untaken(t, n, 0, api.ErrPostCut)
}

// P9.1: New, by how many nodes there may be, and by numbers of which there may not; nothing is under way, and nobody is cut off.
func TestNew(t *testing.T) {
	for nodes := 1; nodes <= 64; nodes++ {
		n := made(t, nodes)
		under(t, n)
		there, back := letter{1, nodes - 1, 0, "there"}, letter{2, 0, nodes - 1, "back"}
		send(t, n, there)
		send(t, n, back)
		unsent(t, n, nodes, 0, api.ErrPostNodes)
		unsent(t, n, 0, nodes, api.ErrPostNodes)
		take(t, n, 1, back)
		take(t, n, 0, there)
	}
	for _, nodes := range []int{0, -1, 65, 66, 128, 1 << 31, -1 << 31, 1<<32 + 1, math.MinInt, math.MinInt + 1, math.MaxInt} {
		if n, err := New[string](nodes); n != nil || err != api.ErrPostNodes {
			t.Fatalf("New(%d) = %v, %d", nodes, n, err)
		}
	}
}

// P9.1: each call that has a node, at all nodes, and at numbers of none; what is refused changes nothing.
func TestNodes(t *testing.T) {
	for _, nodes := range []int{1, 2, 3, 63, 64} {
		n := made(t, nodes)
		var all []letter
		for node := range nodes {
			for _, l := range []letter{{3*node + 1, node, nodes - 1, "from"}, {3*node + 2, 0, node, "to"}, {3*node + 3, node, node, "self"}} {
				send(t, n, l)
				all = append(all, l)
			}
			cut(t, n, node, true, api.OK)
		}
		for _, node := range noneOf(nodes) {
			unsent(t, n, node, 0, api.ErrPostNodes)
			unsent(t, n, nodes-1, node, api.ErrPostNodes)
			unsent(t, n, node, node, api.ErrPostNodes)
			cut(t, n, node, true, api.ErrPostNodes)
			cut(t, n, node, false, api.ErrPostNodes)
			purge(t, n, node, api.ErrPostNodes)
			under(t, n, all...)
			untaken(t, n, 0, api.ErrPostCut)
		}
		for node := range nodes {
			cut(t, n, node, false, api.OK)
			purge(t, n, node, api.OK)
		}
		under(t, n)
	}
}

// P9.1: what is no node can't be cut off, and no node is cut off in its stead.
func TestNoNodeIsCutOff(t *testing.T) {
	for _, nodes := range []int{1, 2, 64} {
		n := made(t, nodes)
		for _, node := range noneOf(nodes) {
			cut(t, n, node, true, api.ErrPostNodes)
		}
		for node := range nodes {
			l := letter{node + 1, node, nodes - 1 - node, "m"}
			send(t, n, l)
			take(t, n, 0, l)
		}
	}
}

// P9.1: Take, Copy and Lose at numbers at which there is no letter: of nets with none, a few, and all but too many; what is refused changes nothing.
func TestNoPlaces(t *testing.T) {
	for _, letters := range []int{0, 1, 2, 7, most - 1, most} {
		n, all := lettered(t, letters)
		for _, i := range noneOf(letters) {
			untaken(t, n, i, api.ErrPostNone)
			replicate(t, n, i, api.ErrPostNone)
			lose(t, n, i, api.ErrPostNone)
		}
		under(t, n, all...)
	}
}

// P9.1: Take hands out the letter at a place, be it the first one, one in the middle or the last one, and those behind it move up.
func TestTake(t *testing.T) {
	for _, letters := range []int{1, 2, 3, 7, most} {
		for _, i := range someOf(letters) {
			n, all := lettered(t, letters)
			take(t, n, i, all[i])
			under(t, n, without(all, i)...)
			untaken(t, n, letters-1, api.ErrPostNone)
			if i < letters-1 {
				take(t, n, i, all[i+1])
				under(t, n, without(without(all, i), i)...)
			}
		}
	}
}

// P9.1: Lose takes the letter at a place away, as Take does.
func TestLose(t *testing.T) {
	for _, letters := range []int{1, 2, 3, 7, most} {
		for _, i := range someOf(letters) {
			n, all := lettered(t, letters)
			lose(t, n, i, api.OK)
			under(t, n, without(all, i)...)
			lose(t, n, letters-1, api.ErrPostNone)
			if i < letters-1 {
				lose(t, n, i, api.OK)
				under(t, n, without(without(all, i), i)...)
			}
		}
	}
}

// P9.1: Copy puts the letter at a place behind all, as it is; a copy can be copied, and outlives what it is a copy of.
func TestCopy(t *testing.T) {
	for _, letters := range []int{1, 2, 3, 7, most - 2} {
		for _, i := range someOf(letters) {
			n, all := lettered(t, letters)
			replicate(t, n, i, api.OK)
			under(t, n, append(slices.Clone(all), all[i])...)
			replicate(t, n, letters, api.OK)
			under(t, n, append(slices.Clone(all), all[i], all[i])...)
			take(t, n, i, all[i])
			lose(t, n, letters-1, api.OK)
			take(t, n, letters-1, all[i])
			under(t, n, without(all, i)...)
		}
	}
}

// P9.1: letters can be taken in each order.
func TestAnyOrder(t *testing.T) {
	orders := 0
	for a := range 4 {
		for b := range 3 {
			for c := range 2 {
				n, all := lettered(t, 4)
				for _, i := range []int{a, b, c, 0} {
					take(t, n, i, all[i])
					all = without(all, i)
					under(t, n, all...)
				}
				orders++
			}
		}
	}
	if orders != 24 {
		t.Error(orders)
	}
}

// P9.1: Send puts a letter behind all, from each node to each node, itself among them; letters that are alike are two.
func TestSend(t *testing.T) {
	n := made(t, 4)
	var all []letter
	for from := range 4 {
		for to := range 4 {
			l := letter{len(all) + 1, from, to, strconv.Itoa(from + to)}
			send(t, n, l)
			all = append(all, l)
			under(t, n, all...)
		}
	}
	for id := 17; id <= 19; id++ {
		send(t, n, letter{id, 2, 1, ""})
	}
	under(t, n, append(all, letter{17, 2, 1, ""}, letter{18, 2, 1, ""}, letter{19, 2, 1, ""})...)
}

// P9.1: a letter from a node to itself is under way like any other one, also in a net of one node.
func TestToItself(t *testing.T) {
	for _, nodes := range []int{1, 2, 64} {
		n, self := made(t, nodes), nodes-1
		var l []letter
		for k := range 4 {
			l = append(l, letter{k + 1, self, self, strconv.Itoa(k)})
			send(t, n, l[k])
		}
		replicate(t, n, 1, api.OK)
		lose(t, n, 2, api.OK)
		under(t, n, l[0], l[1], l[3], l[1])
		take(t, n, 1, l[1])
		cut(t, n, self, true, api.OK)
		untaken(t, n, 0, api.ErrPostCut)
		cut(t, n, self, false, api.OK)
		take(t, n, 0, l[0])
		under(t, n, l[3], l[1])
		purge(t, n, self, api.OK)
		under(t, n)
	}
}

// P9.1: the letters 999 and 1000 are sent, 1001 isn't, and that changes nothing; that there is no such node is told ahead of it.
func TestSendFull(t *testing.T) {
	n, all := lettered(t, 998)
	for id := 999; id <= 1000; id++ {
		all = append(all, letter{id, 1, 2, "last"})
		send(t, n, all[id-1])
		under(t, n, all...)
	}
	for range 3 {
		unsent(t, n, 1, 2, api.ErrPostFull)
		unsent(t, n, 3, 3, api.ErrPostFull)
		unsent(t, n, 8, 2, api.ErrPostNodes)
		unsent(t, n, 1, -1, api.ErrPostNodes)
		under(t, n, all...)
	}
}

// P9.1: a copy makes 999 letters of 998 and 1000 of 999, none makes 1001; that there is no such letter is told ahead of it.
func TestCopyFull(t *testing.T) {
	n, all := lettered(t, 998)
	for _, i := range []int{500, 0} {
		replicate(t, n, i, api.OK)
		all = append(all, all[i])
		under(t, n, all...)
	}
	for _, i := range []int{0, 1, 500, 998, 999} {
		replicate(t, n, i, api.ErrPostFull)
	}
	for _, i := range noneOf(most) {
		replicate(t, n, i, api.ErrPostNone)
	}
	unsent(t, n, 0, 1, api.ErrPostFull)
	under(t, n, all...)
}

// P9.1: copies count like letters that were sent: a net can be filled by those of one letter.
func TestCopiesFill(t *testing.T) {
	n, l := made(t, 2), letter{1, 0, 1, "a"}
	send(t, n, l)
	for k := range most - 1 {
		replicate(t, n, k/2, api.OK)
	}
	replicate(t, n, 0, api.ErrPostFull)
	unsent(t, n, 0, 1, api.ErrPostFull)
	under(t, n, slices.Repeat([]letter{l}, most)...)
	take(t, n, most-1, l)
	send(t, n, letter{2, 1, 0, "b"})
	under(t, n, append(slices.Repeat([]letter{l}, most-1), letter{2, 1, 0, "b"})...)
}

// P9.1: a net that was full has room for just as many as were taken, lost or purged.
func TestRoomAgain(t *testing.T) {
	n, all := lettered(t, most)
	next := most + 1
	for _, free := range []func() []letter{
		func() []letter { take(t, n, 700, all[700]); return without(all, 700) },
		func() []letter { lose(t, n, 3, api.OK); return without(all, 3) },
		func() []letter { purge(t, n, 7, api.OK); return slices.DeleteFunc(slices.Clone(all), toNode(7)) },
	} {
		replicate(t, n, 0, api.ErrPostFull)
		unsent(t, n, 0, 1, api.ErrPostFull)
		all = free()
		for len(all) < most {
			if len(all)%2 == 0 {
				replicate(t, n, len(all)-1, api.OK)
				all = append(all, all[len(all)-1])
				continue
			}
			all = append(all, letter{next, 0, 1, "new"})
			send(t, n, all[len(all)-1])
			next++
		}
		under(t, n, all...)
	}
	replicate(t, n, 0, api.ErrPostFull)
	unsent(t, n, 0, 1, api.ErrPostFull)
}

// toNode is what tells whether a letter goes to a node.
func toNode(node int) func(letter) bool {
	return func(l letter) bool { return l.To == node }
}
