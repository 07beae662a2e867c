package store

import (
	"math/rand/v2"
	"slices"
	"testing"

	"moiety/api"
)

// told is what was told of a time: of all keys, and of some one by one.
type told struct {
	l    []api.Entry
	gets []said
}

// toldKeys is the keys that are asked for one by one.
func toldKeys() []int { return []int{0, 8, 16, 24, 3, 8191} }

// tell is what a store tells of a time up to which it is closed, and that isn't behind its mark.
func tell(t *testing.T, s *Store, at int64) told {
	t.Helper()
	l, err := s.Snap(at)
	if err != api.OK {
		t.Fatal(at, err)
	}
	x := told{l: l}
	for _, key := range toldKeys() {
		v, err := s.Get(key, at)
		x.gets = append(x.gets, said{v: v, err: err})
	}
	return x
}

// like is whether the same was told.
func (x told) like(y told) bool {
	return slices.Equal(x.l, y.l) && slices.EqualFunc(x.gets, y.gets, said.like)
}

// notes is what was told of times once.
type notes map[int64]told

// check holds what is told now of all times that were told of against what was told then, or against nothing, if it was pruned away; how many these were.
func (n notes) check(t *testing.T, s *Store, behind call) (same, old int) {
	t.Helper()
	for at, was := range n {
		if at >= s.Mark() {
			same++
			if got := tell(t, s, at); !got.like(was) {
				t.Fatalf("behind %v: of %d %v was told, now %v", behind, at, was, got)
			}
			continue
		}
		old++
		if l, err := s.Snap(at); err != api.ErrStoreOld || len(l) != 0 {
			t.Fatalf("behind %v: Snap(%d) = %v, %d, and the mark is %d", behind, at, l, err, s.Mark())
		}
	}
	return same, old
}

// note notes what is told of times, as far as it is told.
func (n notes) note(t *testing.T, s *Store, times ...int64) {
	for _, at := range times {
		if at >= s.Mark() && at <= s.Closed() && at >= 0 {
			n[at] = tell(t, s, at)
		}
	}
}

// between is all times from one to another one.
func between(from, to int64) []int64 {
	var l []int64
	for at := max(from, 0); at <= min(to, most); at++ {
		l = append(l, at)
	}
	return l
}

// P12.5: in plays of any calls, at both ends of all times and between, the same is told of a time once and behind all that comes later, till it is pruned away.
func TestSnapshotStays(t *testing.T) {
	r := rand.New(rand.NewPCG(12, 3))
	same, old := 0, 0
	for round := range 150 {
		base := []int64{0, 0, 1000, most - 40, most - 80}[round%5]
		s, n := made(t), notes{}
		for step := range int64(80) {
			k := someCall(r, base+step, s)
			k.to(s)
			nSame, nOld := n.check(t, s, k)
			same, old = same+nSame, old+nOld
			n.note(t, s, between(base-5, base+100)...)
		}
	}
	if same < 100000 || old < 50000 {
		t.Error("too few", same, old)
	}
}

// spread is a time anywhere from one to another one, most often near the first.
func spread(r *rand.Rand, from, to int64) int64 {
	return from + r.Int64N(to-from+1)>>r.IntN(50)
}

// P12.5: also where all is far apart: just below, at and just above what was put, closed and pruned by, and anywhere between.
func TestSnapshotStaysFarApart(t *testing.T) {
	r := rand.New(rand.NewPCG(12, 4))
	same := 0
	for range 60 {
		s, n := made(t), notes{}
		met := []int64{0, most}
		for range 50 {
			k := call{kind: kindPut, at: spread(r, s.Closed(), most), l: someEntries(r)}
			switch r.IntN(6) {
			case 0, 1:
				k = call{kind: kindClose, at: spread(r, s.Closed(), most)}
			case 2:
				k = call{kind: kindPrune, at: spread(r, s.Mark(), s.Closed())}
			}
			if k.to(s).err == api.OK {
				met = append(met, k.at)
			}
			nSame, _ := n.check(t, s, k)
			same += nSame
			n.note(t, s, aroundAll(append(met, spread(r, 0, most), spread(r, s.Mark(), s.Closed()))...)...)
		}
	}
	if same < 20000 {
		t.Error("too few", same)
	}
}

// rightPuts is puts that a store takes, one behind the other, each with numbers of its own: how many puts were asked for, and what these are.
func rightPuts(r *rand.Rand, s *Store, from, to int64, n int) []lot {
	var l []lot
	for k := range n {
		x := lot{from + r.Int64N(to-from+1), someEntries(r)}
		for i := range x.l {
			x.l[i].V = int64(1000*k + i)
		}
		if s.Put(x.t, x.l) == api.OK {
			l = append(l, x)
		}
	}
	return l
}

// P12.5: of what was put at one stamp a snapshot has all, or what came later, if it is of that stamp or a later time, and else none; of what was refused none.
func TestWholeOrNotAtAll(t *testing.T) {
	r := rand.New(rand.NewPCG(12, 5))
	refused := 0
	for round := range 200 {
		base := []int64{1, 500, most - 60}[round%3]
		s := made(t)
		l := rightPuts(r, s, base, base+60, 60)
		refused += 60 - len(l)
		stampOf := map[int64]int64{} // by the numbers that were put
		for _, x := range l {
			for _, e := range x.l {
				stampOf[e.V] = x.t
			}
		}
		if s.Close(base+60) != api.OK {
			t.Fatal(base)
		}
		for _, at := range between(base-1, base+60) {
			has := map[int]int64{} // the stamps of what the keys have, which are above 0
			for _, e := range tell(t, s, at).l {
				has[e.Key] = stampOf[e.V]
				if has[e.Key] < 1 || has[e.Key] > at {
					t.Errorf("Snap(%d) has %v of %d", at, e, has[e.Key])
				}
			}
			for _, x := range l {
				for _, e := range x.l {
					if x.t <= at && has[e.Key] < x.t {
						t.Errorf("Snap(%d) has not %v of %d", at, e, x.t)
					}
				}
			}
		}
	}
	if refused < 2000 {
		t.Error("too few were refused:", refused)
	}
}

// meet is whether two puts have a key both.
func meet(a, b lot) bool {
	return slices.ContainsFunc(a.l, func(e api.Entry) bool {
		return slices.ContainsFunc(b.l, func(f api.Entry) bool { return e.Key == f.Key })
	})
}

// mixed is puts whose order is changed, but for those of a key both.
func mixed(r *rand.Rand, l []lot) []lot {
	l = slices.Clone(l)
	for range 4 * len(l) * len(l) {
		if k := r.IntN(len(l)); k > 0 && !meet(l[k-1], l[k]) {
			l[k-1], l[k] = l[k], l[k-1]
		}
	}
	return l
}

// alike holds all that two stores tell, of times from one to another one, against each other.
func alike(t *testing.T, a, b *Store, from, to int64) {
	t.Helper()
	if a.Closed() != b.Closed() || a.Mark() != b.Mark() || a.Size() != b.Size() {
		t.Errorf("Closed, Mark, Size: %d %d %d, want %d %d %d", a.Closed(), a.Mark(), a.Size(), b.Closed(), b.Mark(), b.Size())
	}
	for key := range 200 {
		got, ok := a.Last(key)
		if want, there := b.Last(key); got != want || ok != there {
			t.Errorf("Last(%d) = %v, %v, want %v, %v", key, got, ok, want, there)
		}
	}
	for _, at := range between(max(from, a.Mark()), min(to, a.Closed())) {
		if got, want := tell(t, a, at), tell(t, b, at); !got.like(want) {
			t.Errorf("of %d %v is told, want %v", at, got, want)
		}
	}
}

// P12.5: puts of unlike keys change places, between times at which it is closed, and pruned, and both stores tell the same.
func TestUnlikeKeysChangePlaces(t *testing.T) {
	r := rand.New(rand.NewPCG(12, 6))
	moved := 0
	for round := range 150 {
		base := []int64{0, 700, most - 90}[round%3]
		a, b := made(t), made(t)
		for part := range int64(3) {
			from := base + 30*part
			l := rightPuts(r, a, from+1, from+50, 25) // some of them above what is closed next
			other := mixed(r, l)
			for k, x := range other {
				if err := b.Put(x.t, x.l); err != api.OK {
					t.Fatal(x, err)
				}
				if !slices.Equal(x.l, l[k].l) {
					moved++
				}
			}
			alike(t, a, b, base, base+90)
			for _, s := range []*Store{a, b} {
				if s.Close(from+30) != api.OK || s.Prune(from+int64(round)%30) != api.OK {
					t.Fatal(from)
				}
			}
			alike(t, a, b, base, base+90)
		}
		for _, s := range []*Store{a, b} {
			if s.Close(most) != api.OK {
				t.Fatal(round)
			}
		}
		alike(t, a, b, base, base+150)
	}
	if moved < 2000 {
		t.Error("too few moved:", moved)
	}
}

// P12.4, P12.5: of all times from its mark on a store tells what one tells that was put and closed the same, and never pruned.
func TestAsNeverPruned(t *testing.T) {
	r := rand.New(rand.NewPCG(12, 7))
	gone := 0
	for round := range 150 {
		base := []int64{0, 1000, most - 60}[round%3]
		a, b := made(t), made(t)
		for step := range int64(70) {
			k := someCall(r, base+step, a)
			if got := k.to(a); k.kind != kindPrune && got.err == api.OK {
				k.to(b)
			}
			for _, at := range between(max(base-5, a.Mark()), min(base+80, a.Closed())) {
				if got, want := tell(t, a, at), tell(t, b, at); !got.like(want) {
					t.Fatalf("behind %v: of %d %v is told, want %v", k, at, got, want)
				}
			}
		}
		gone += b.Size() - a.Size()
	}
	if gone < 1000 {
		t.Error("too few went:", gone)
	}
}

// P12.5: a mark beyond a time takes it away, and no other one: what counts at the mark is told from it on.
func TestMarkTakesWhatIsAheadAlone(t *testing.T) {
	for mark := range int64(46) {
		d, n := having(t, 45, 0, lot{3, of(0, 1, 8, 1)}, lot{15, of(8, 2)}, lot{16, of(0, 3, 16, 3)}, lot{42, of(0, 4, 24, 4)}, lot{60, of(8, 5)}), notes{}
		n.note(t, d.s, between(0, 60)...)
		d.prune(mark, api.OK)
		if same, old := n.check(t, d.s, call{kind: kindPrune, at: mark}); int64(same) != 46-mark || int64(old) != mark {
			t.Error(mark, same, old)
		}
	}
}
