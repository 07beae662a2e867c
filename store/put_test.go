package store

import (
	"testing"

	"moiety/api"
)

// P12.1: what is put first may be of any stamp, and of no other number.
func TestPutFirst(t *testing.T) {
	for _, at := range []int64{1, 2, 7, 1000, 1 << 40, most - 1, most} {
		d := begun(t)
		d.put(at, of(3, 5), api.OK)
		d.last(3, at, 5)
		d.tells(0, 0, 1)
		d.close(most, api.OK)
		d.get(3, at, at, 5)
		d.none(3, at-1, api.ErrStoreNone)
	}
	for _, at := range noStamps() {
		d := begun(t)
		d.put(at, of(3, 5), api.ErrStoreTime)
		d.noLast(3)
		d.tells(0, 0, 0)
	}
}

// P12.1: up to the time up to which it is closed nothing is put, above it all that may be; of keys that were ever put, and of others.
func TestPutByClosed(t *testing.T) {
	for _, closed := range []int64{0, 1, 2, 50, 51, 1000, most - 1, most} {
		for _, at := range []int64{1, 2, 49, 50, 51, 52, closed - 1, closed, closed + 1, closed + 2, most - 1, most, most + 1} {
			for _, l := range [][]api.Entry{nil, of(1, 8), of(2, 8), of(0, 1, 1, 2, 2, 3)} {
				want := api.OK
				switch {
				case at < 1 || at > most:
					want = api.ErrStoreTime
				case at <= closed:
					want = api.ErrStoreOrder
				}
				having(t, closed, 0).put(at, l, want)
				having(t, closed, closed).put(at, l, want)
			}
		}
	}
}

// P12.1: stamps rise key by key: a key's is above its last version's, whatever the other keys have.
func TestPutByLast(t *testing.T) {
	l := []lot{{10, of(1, 100, 2, 200)}, {20, of(2, 210)}, {30, of(3, 300)}, {31, of(2, 220, 4, 400)}, {most - 1, of(5, 500)}, {most, of(6, 600)}}
	lasts := []int64{0, 10, 31, 30, 31, most - 1, most, 0}
	for key, stamp := range lasts {
		for _, at := range []int64{1, 5, 9, 10, 11, 19, 20, 21, 29, 30, 31, 32, 1000, most - 2, most - 1, most} {
			want := api.OK
			if at <= stamp {
				want = api.ErrStoreOrder
			}
			having(t, 0, 0, l...).put(at, of(int64(key), 7), want)
			having(t, 0, 0, l...).put(at, of(0, 1, int64(key)+1000, 2), api.OK)
		}
	}
}

// P12.1: the time up to which it is closed and a key's last version's T both bind, whichever is later.
func TestPutByClosedAndLast(t *testing.T) {
	for _, stamp := range []int64{40, 50, 60} {
		for _, closed := range []int64{0, 39, 49, 50, 51, 60} {
			for at := int64(38); at < 63; at++ {
				d := having(t, closed, 0, lot{stamp, of(1, 1)})
				want := api.OK
				if at <= max(stamp, closed) {
					want = api.ErrStoreOrder
				}
				d.put(at, of(1, 2), want)
				want = api.OK
				if at <= closed {
					want = api.ErrStoreOrder
				}
				d.put(at, of(9, 2), want)
			}
		}
	}
}

// P12.1: behind a version at MaxTime its key has none, and behind being closed up to there no key has.
func TestPutBehindMaxTime(t *testing.T) {
	d := having(t, 0, 0, lot{most, of(1, 1)})
	d.put(most, of(1, 2), api.ErrStoreOrder)
	d.put(most+1, of(1, 2), api.ErrStoreTime)
	d.put(most, of(2, 2), api.OK)
	d.close(most, api.OK)
	d.put(most, of(3, 3), api.ErrStoreOrder)
	d.put(1, of(3, 3), api.ErrStoreOrder)
	d.put(most+1, of(3, 3), api.ErrStoreTime)
	d.snap(most, 1, 1, 2, 2)
}

// P12.1: none, one, and up to 100 entries are put at once, and not one more; all of them have the stamp.
func TestPutHowMany(t *testing.T) {
	for _, n := range []int{0, 1, 2, 50, 99, 100} {
		d := begun(t)
		d.put(5, many(300, n), api.OK)
		d.tells(0, 0, n)
		for k := range n {
			d.last(300+k, 5, int64(-100*k))
		}
		d.noLast(299)
		d.noLast(300 + n)
		d.put(6, many(250, n), api.OK)
		d.tells(0, 0, 2*n)
	}
	for _, n := range []int{101, 102, 200, 5000, 8192, 8193} {
		d := having(t, 3, 2, lot{2, of(400, 1)}, lot{9, of(500, 1)})
		d.put(10, many(0, n), api.ErrStoreMany)
		d.tells(3, 2, 2)
	}
}

// P12.1: nothing at all may be put too, at a stamp that may be: nothing is there then.
func TestPutNothing(t *testing.T) {
	for _, l := range [][]api.Entry{nil, {}, make([]api.Entry, 0, 5)} {
		d := having(t, 7, 3, lot{5, of(1, 1)}, lot{9, of(2, 2)})
		d.put(8, l, api.OK)
		d.put(9, l, api.OK)
		d.put(8, l, api.OK)
		d.put(most, l, api.OK)
		d.put(7, l, api.ErrStoreOrder)
		d.put(1, l, api.ErrStoreOrder)
		d.put(0, l, api.ErrStoreTime)
		d.put(most+1, l, api.ErrStoreTime)
		d.tells(7, 3, 2)
	}
}

// P12.1: keys are the numbers from 0 to 8191, and no others; wherever in the list they stand.
func TestPutKeys(t *testing.T) {
	for _, key := range []int{0, 1, 2, 4095, 4096, 4097, 8190, 8191} {
		d := begun(t)
		d.put(5, []api.Entry{{Key: key, V: 9}}, api.OK)
		d.last(key, 5, 9)
		d.put(6, append(many(100, 50), api.Entry{Key: key, V: 10}), api.OK)
		d.last(key, 6, 10)
	}
	for _, key := range noKeys() {
		bad := api.Entry{Key: key, V: 9}
		for _, l := range [][]api.Entry{{bad}, append(of(1, 1, 2, 2), bad), append([]api.Entry{bad}, of(1, 1, 2, 2)...), append(many(0, 99), bad)} {
			begun(t).put(5, l, api.ErrStoreKey)
			d := having(t, 3, 2, lot{2, of(1, 1)}, lot{4, of(2, 2)})
			d.put(5, l, api.ErrStoreKey)
			d.noLast(key)
			d.tells(3, 2, 2)
		}
	}
}

// P12.1: a key stands in a list once: next to itself or far apart, with the same number or another one, it is refused, whatever it has already.
func TestPutTwice(t *testing.T) {
	twice := [][]api.Entry{
		of(1, 5, 1, 5), of(1, 5, 1, 6), of(0, 0, 0, 0), of(8191, 1, 8191, 1), of(1, 5, 2, 5, 1, 5), of(3, 1, 1, 5, 1, 6, 4, 1), of(1, 1, 1, 2, 1, 3),
		of(1, 1, 2, 2, 3, 3, 2, 4), append(many(1, 99), of(1, 1)...), append(many(1, 99), of(99, 1)...), append(of(50, 1), many(1, 99)...), append(of(99, 1), many(1, 99)...),
	}
	for _, l := range twice {
		begun(t).put(5, l, api.ErrStoreTwice)
		d := having(t, 3, 2, lot{2, of(1, 1, 99, 1)}, lot{4, of(1, 3, 8191, 2)})
		d.put(5, l, api.ErrStoreTwice)
		d.tells(3, 2, 4)
	}
	d := begun(t)
	for k := range int64(30) {
		d.put(k+1, of(1, k, 2, k), api.OK)
	}
	d.tells(0, 0, 60)
}

// P12.1: a version has any number, which is told as it was put; so are many that have alike ones.
func TestPutAnyNumber(t *testing.T) {
	d := begun(t)
	for k, v := range append(someNumbers(), someNumbers()...) {
		at := int64(3 + 2*k)
		d.put(at, of(1, v, 2, -1, int64(100+k), v), api.OK)
		d.last(1, at, v)
		d.last(100+k, at, v)
	}
	d.close(1000, api.OK)
	for k, v := range append(someNumbers(), someNumbers()...) {
		at := int64(3 + 2*k)
		d.get(1, at, at, v)
		d.get(1, at+1, at, v)
		d.get(100+k, 1000, at, v)
	}
}

// P12.1: those of unlike keys come in any order, also behind one another at one stamp.
func TestPutInAnyOrder(t *testing.T) {
	d := begun(t)
	d.put(50, of(5, 1), api.OK)
	d.put(10, of(4, 2), api.OK)
	d.put(50, of(3, 3), api.OK)
	d.put(30, of(4, 4, 2, 4), api.OK)
	d.put(50, of(5, 5), api.ErrStoreOrder)
	d.put(50, of(1, 6, 3, 6), api.ErrStoreOrder)
	d.put(1, of(1, 7), api.OK)
	d.put(49, of(6, 8, 5, 8), api.ErrStoreOrder)
	d.put(49, of(6, 9), api.OK)
	d.tells(0, 0, 7)
	d.close(60, api.OK)
	d.snap(9, 1, 7)
	d.snap(10, 1, 7, 4, 2)
	d.snap(30, 1, 7, 2, 4, 4, 4)
	d.snap(49, 1, 7, 2, 4, 4, 4, 6, 9)
	d.snap(50, 1, 7, 2, 4, 3, 3, 4, 4, 5, 1, 6, 9)
}

// P12.1: a stamp behind the mark, and behind which all went that was ahead, may be used by keys that were pruned, and by new ones.
func TestPutBehindMark(t *testing.T) {
	d := having(t, 50, 50, lot{10, of(1, 1, 2, 1)}, lot{20, of(1, 2)}, lot{60, of(2, 2)})
	d.tells(50, 50, 3)
	d.put(50, of(1, 3), api.ErrStoreOrder)
	d.put(51, of(1, 3, 3, 3), api.OK)
	d.put(60, of(2, 3), api.ErrStoreOrder)
	d.put(61, of(2, 3), api.OK)
	d.close(55, api.OK)
	d.snap(50, 1, 2, 2, 1)
	d.snap(51, 1, 3, 2, 1, 3, 3)
	d.prune(20, api.OK)
	d.prune(51, api.OK)
	d.tells(55, 51, 5)
	d.noSnap(50, api.ErrStoreOld)
}

// P12.1: the last version is the one that was put last, closed up to there or not, and pruned or not.
func TestLast(t *testing.T) {
	d := begun(t)
	for k := range int64(20) {
		d.put(5*k+5, of(7, k, 8191, -k), api.OK)
		d.last(7, 5*k+5, k)
		d.last(8191, 5*k+5, -k)
		if k%3 == 1 {
			d.close(5*k+7, api.OK)
			d.last(7, 5*k+5, k)
			d.prune(5*k+6, api.OK)
			d.last(8191, 5*k+5, -k)
		}
	}
	for _, key := range append(noKeys(), 0, 6, 8, 8190) {
		d.noLast(key)
	}
}
