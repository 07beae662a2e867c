package store

import (
	"slices"
	"testing"

	"moiety/api"
)

// spoil changes entries, and what stands in the spare room behind them.
func spoil(l []api.Entry) {
	l = l[:cap(l)]
	for k := range l {
		l[k] = api.Entry{Key: 4000 + k, V: 777}
	}
}

// roomy is entries with others in the spare room behind them.
func roomy(l []api.Entry) []api.Entry {
	all := append(slices.Clone(l), many(60, 5)...)
	return all[:len(l)]
}

// P12.1: the entries that are handed in stay as they were, what stands behind them too, whatever is answered.
func TestPutLeavesEntries(t *testing.T) {
	for _, l := range [][]api.Entry{nil, of(3, 1), of(2, 1, 1, 2), of(9, 1, 5, 2, 7, 3, 1, 4), of(5, 1, 5, 1), of(9, 1, 8192, 1), many(50, 100), many(0, 101)} {
		for _, at := range []int64{0, 1, 20, 21, 30, 31, most, most + 1} {
			d := filled(t)
			handed := roomy(l)
			was := slices.Clone(handed[:cap(handed)])
			d.s.Put(at, handed)
			d.s.Close(most)
			d.s.Snap(most)
			d.s.Prune(most)
			if got := handed[:cap(handed)]; !slices.Equal(got, was) {
				t.Errorf("Put(%d, %v): %v, was %v", at, l, got, was)
			}
		}
	}
}

// P12.1: nor are they kept: what their owner changes in them later the store doesn't see.
func TestPutKeepsNoEntries(t *testing.T) {
	d := begun(t)
	for at := int64(1); at < 20; at++ {
		l := of(1, at, 2*at, 5, 8191, -at)
		d.put(at, l, api.OK)
		spoil(l)
		d.stands()
	}
	d.close(19, api.OK)
	d.stands()
}

// P12.3: a list that was told is its owner's: what he changes, or puts behind it, the store does not see, nor does anyone who was told another one.
func TestSnapIsItsOwners(t *testing.T) {
	for _, l := range someLots() {
		d := having(t, most, 0, l...)
		for _, at := range d.someTimes() {
			first, _ := d.s.Snap(at)
			second, _ := d.s.Snap(at)
			want := slices.Clone(second)
			_ = append(first, of(1, 2, 3, 4)...)
			spoil(first)
			if !slices.Equal(second, want) {
				t.Errorf("told %v, is %v", few(want), few(second))
			}
			spoil(second) // the last one that was told
			d.standsAt(at)
		}
		d.stands()
	}
}

// P12.3, P12.5: what comes later changes no list that was told: no other version, no mark, and no list that is told.
func TestSnapStaysWithItsOwner(t *testing.T) {
	s := made(t)
	var lists, were [][]api.Entry
	for k := range int64(60) {
		for _, err := range []api.Errno{s.Put(10*k+5, of(k%7, k, 20+k, k)), s.Close(10*k + 7)} {
			if err != api.OK {
				t.Fatal(k, err)
			}
		}
		if k%4 == 3 && s.Prune(10*k-20) != api.OK {
			t.Fatal(k)
		}
		for _, at := range []int64{s.Mark(), 10*k + 5, 10*k + 7} {
			l, err := s.Snap(at)
			if err != api.OK {
				t.Fatal(at, err)
			}
			lists = append(lists, l)
			were = append(were, slices.Clone(l))
		}
	}
	for k := range lists {
		if !slices.Equal(lists[k], were[k]) {
			t.Errorf("list %d: told %v, is %v", k, few(were[k]), few(lists[k]))
		}
	}
}

// P12.3: a version that was told is its owner's too.
func TestVersionIsItsOwners(t *testing.T) {
	d := having(t, 9, 0, lot{5, of(1, 100)}, lot{9, of(1, 80)})
	v, _ := d.s.Get(1, 5)
	newest, _ := d.s.Last(1)
	v.V, newest.V, newest.T = 1, 2, 3
	d.stands()
}
