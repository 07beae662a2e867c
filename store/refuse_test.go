package store

import (
	"testing"

	"moiety/api"
)

// filled is a store that is closed up to 20 and pruned by 10, with keys at several stamps.
func filled(t *testing.T) *pair {
	t.Helper()
	return having(t, 20, 10, lot{5, of(1, 1)}, lot{12, of(1, 2, 2, 2)}, lot{30, of(3, 3)}, lot{40, of(4, 4)})
}

// P12.1: what is wrong with all of a call is told ahead of what is wrong with an entry: the stamp, then its order, then how many there are.
func TestPutRefusedInOrder(t *testing.T) {
	bad := [][]api.Entry{of(-1, 1), of(8192, 1), of(1, 1, 1, 1), of(3, 1), of(4, 1, 4, 1), many(0, 101), append(many(0, 101), of(-1, 1, -1, 1)...), of(9, 1)}
	for _, l := range bad {
		for _, at := range noStamps() {
			filled(t).put(at, l, api.ErrStoreTime)
		}
		for _, at := range []int64{1, 2, 9, 10, 11, 19, 20} {
			filled(t).put(at, l, api.ErrStoreOrder)
		}
	}
	for _, l := range [][]api.Entry{many(0, 101), many(-1, 101), append(of(3, 1), many(3, 100)...), append(of(8192, 1, 8192, 1), many(0, 100)...), make([]api.Entry, 101)} {
		for _, at := range []int64{21, 30, 31, most} {
			filled(t).put(at, l, api.ErrStoreMany)
		}
	}
}

// P12.1: the first entry with which something is wrong tells what: what is no key first, then what stands twice, then what is out of order.
func TestPutRefusedEntryByEntry(t *testing.T) {
	for _, k := range []struct {
		l    []api.Entry
		want api.Errno
	}{
		{of(-1, 1, -1, 1), api.ErrStoreKey},
		{of(8192, 1, 3, 1), api.ErrStoreKey},
		{of(3, 1, 8192, 1), api.ErrStoreOrder},
		{of(3, 1, 3, 1), api.ErrStoreOrder},
		{of(9, 1, 9, 1, 3, 1), api.ErrStoreTwice},
		{of(9, 1, 3, 1, 9, 1), api.ErrStoreOrder},
		{of(9, 1, 9, 1, -1, 1), api.ErrStoreTwice},
		{of(9, 1, -1, 1, 9, 1), api.ErrStoreKey},
		{of(1, 1, 2, 1, 1, 1), api.ErrStoreTwice},
		{of(1, 1, 2, 1, 4, 1), api.ErrStoreOrder},
		{of(1, 1, 2, 1, 4, 1, -1, 1), api.ErrStoreOrder},
		{of(1, 1, 2, 1, -1, 1, 4, 1), api.ErrStoreKey},
		{of(0, 1, 8191, 1, 0, 1, 8192, 1), api.ErrStoreTwice},
		{append(many(100, 99), of(3, 1)...), api.ErrStoreOrder},
		{append(many(100, 99), of(100, 1)...), api.ErrStoreTwice},
		{append(many(100, 99), of(8192, 1)...), api.ErrStoreKey},
		{append(of(8192, 1), many(3, 99)...), api.ErrStoreKey},
		{append(of(9, 1, 9, 2), many(3, 98)...), api.ErrStoreTwice},
		{many(3, 100), api.ErrStoreOrder},
	} {
		d := filled(t)
		d.put(30, k.l, k.want)
		d.tells(20, 10, 5)
		if d.s.Close(most) != api.OK || d.p.Close(most) != api.OK {
			t.Fatal(k)
		}
		d.stands()
	}
}

// P12.1: what stands twice is told as that, not as out of order behind its own first entry.
func TestPutTwiceAtItsOwnStamp(t *testing.T) {
	for _, at := range []int64{21, 30, 41, most} {
		d := filled(t)
		d.put(at, of(1, 5, 1, 6), api.ErrStoreTwice)
		d.put(at, of(1, 5), api.OK)
		d.put(at, of(1, 5), api.ErrStoreOrder)
		d.put(at, of(1, 5, 1, 6), api.ErrStoreOrder)
	}
}

// P12.1: of what is refused nothing is there, also of entries that were right, wherever the wrong one stands; and all of them may be put then.
func TestPutAllOrNone(t *testing.T) {
	for _, wrong := range []api.Entry{{Key: -1}, {Key: 8192}, {Key: mostInt}, {Key: 3, V: 1}, {Key: 100, V: 1}} {
		for place := 1; place < 100; place++ {
			right := many(100, 99)
			l := append(append(many(100, place), wrong), right[place:]...)
			d := filled(t)
			err := d.s.Put(30, l)
			if want := d.p.Put(30, l); err != want || err == api.OK {
				t.Errorf("%v at %d: %d, want %d", wrong, place, err, want)
			}
			for _, e := range right {
				d.noLast(e.Key)
			}
			d.tells(20, 10, 5)
			if err := d.s.Put(21, right); err != api.OK {
				t.Error(wrong, place, err)
			}
			d.tells(20, 10, 104)
		}
	}
}

// P12.4: what is no time is told ahead of what isn't closed up to there.
func TestPruneRefusedInOrder(t *testing.T) {
	d := filled(t)
	for _, mark := range noTimes() {
		d.prune(mark, api.ErrStoreTime)
	}
	for _, mark := range []int64{21, 22, 30, 31, 40, 1000, most - 1, most} {
		d.prune(mark, api.ErrStoreOpen)
	}
	d.tells(20, 10, 5)
	d.prune(20, api.OK)
	d.tells(20, 20, 4)
}
