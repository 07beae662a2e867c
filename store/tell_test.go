package store

import (
	"testing"

	"moiety/api"
)

// someLots is what stores may have been put: nothing, one key and many, with one version and many, next to each other and far apart, at both ends of all times.
func someLots() [][]lot {
	return [][]lot{
		nil,
		{{1, of(0, 5)}},
		{{50, of(8191, 5)}},
		{{most, of(3, 5)}},
		{{1, of(1, 1)}, {2, of(1, 2)}, {50, of(1, 3)}, {51, of(1, 4)}, {most, of(1, 5)}},
		{{50, many(20, 100)}},
		{{40, of(9, 1)}, {40, of(8, 2)}, {40, of(8191, 3, 0, 4)}},
		{{10, of(5, 1, 2, 2)}, {20, of(2, 3)}, {30, of(7, 4)}, {31, of(5, 5, 7, 6, 1, 7)}, {32, of(2, 8)}},
		{{60, of(5, 1)}, {10, of(4, 2, 3, 2)}, {55, of(4, 3)}, {30, of(6, 4)}, {49, of(3, low)}, {50, of(2, high)}, {51, of(3, 0)}},
		{{most - 2, of(1, 1)}, {1, of(2, 2)}, {most - 1, of(1, 3, 2, 3)}, {most, of(3, 4)}},
	}
}

// P12.2: it is closed up to each time that is told, and stays closed up to the latest one.
func TestClose(t *testing.T) {
	for _, l := range someLots() {
		for _, closed := range []int64{0, 1, 50, most - 1, most} {
			for _, at := range []int64{0, 1, 2, 49, 50, 51, closed - 1, closed, closed + 1, most - 1, most} {
				if at < 0 || at > most {
					continue
				}
				d := having(t, closed, 0, l...)
				size := d.s.Size()
				d.close(at, api.OK)
				d.tells(max(closed, at), 0, size)
				d.close(at, api.OK)
				d.tells(max(closed, at), 0, size)
				d.close(0, api.OK)
				d.tells(max(closed, at), 0, size)
			}
		}
	}
}

// P12.2: what is no time closes nothing.
func TestCloseRefused(t *testing.T) {
	for _, l := range someLots() {
		for _, closed := range []int64{0, 1, 50, most} {
			d := having(t, closed, closed/2, l...)
			size := d.s.Size()
			for _, at := range noTimes() {
				d.close(at, api.ErrStoreTime)
			}
			d.tells(closed, closed/2, size)
		}
	}
}

// P12.3: the version that counts is told just below, at and just above each version's T, the mark, and the time up to which it is closed.
func TestGetAndSnap(t *testing.T) {
	for _, l := range someLots() {
		for _, closed := range []int64{0, 1, 31, 49, 50, 51, 1000, most - 1, most} {
			for _, mark := range []int64{0, 1, 20, 30, 31, 50, closed - 1, closed} {
				if mark >= 0 && mark <= closed {
					having(t, closed, mark, l...).stands()
				}
			}
		}
	}
}

// P12.3: what a key has at each time, word by word.
func TestGet(t *testing.T) {
	d := having(t, 40, 0, lot{10, of(1, 100)}, lot{20, of(1, -5, 2, 7)}, lot{41, of(1, 3)})
	d.none(1, 0, api.ErrStoreNone)
	d.none(1, 9, api.ErrStoreNone)
	d.get(1, 10, 10, 100)
	d.get(1, 19, 10, 100)
	d.get(1, 20, 20, -5)
	d.get(1, 40, 20, -5)
	d.none(1, 41, api.ErrStoreOpen)
	d.none(2, 19, api.ErrStoreNone)
	d.get(2, 20, 20, 7)
	d.none(3, 40, api.ErrStoreNone)
	d.close(41, api.OK)
	d.get(1, 41, 41, 3)
	d.prune(20, api.OK)
	d.none(1, 19, api.ErrStoreOld)
	d.none(3, 19, api.ErrStoreOld)
	d.none(3, 20, api.ErrStoreNone)
	d.get(1, 20, 20, -5)
}

// P12.3: what isn't told is told by the error that the chapter names first.
func TestGetRefusedInOrder(t *testing.T) {
	d := having(t, 50, 30, lot{10, of(1, 1)}, lot{40, of(2, 2)}, lot{70, of(1, 3)})
	for _, key := range noKeys() {
		for _, at := range append(noTimes(), 0, 29, 30, 40, 50, 51, most) {
			d.none(key, at, api.ErrStoreKey)
		}
	}
	for _, key := range []int{0, 1, 2, topKey} {
		for _, at := range noTimes() {
			d.none(key, at, api.ErrStoreTime)
		}
		for _, at := range []int64{51, 52, 70, most} {
			d.none(key, at, api.ErrStoreOpen)
		}
		for _, at := range []int64{0, 1, 10, 29} {
			d.none(key, at, api.ErrStoreOld)
		}
	}
	d.none(2, 30, api.ErrStoreNone)
	d.none(2, 39, api.ErrStoreNone)
	d.get(2, 40, 40, 2)
	d.none(0, 50, api.ErrStoreNone)
	d.get(1, 50, 10, 1)
}

// P12.3: a snapshot has the keys by rising ones, however they were put, and those alone that have something then.
func TestSnapInOrder(t *testing.T) {
	keys := []int64{8191, 0, 17, 4096, 5, 8190, 1, 100, 64, 63, 3000, 2}
	d := begun(t)
	for k, key := range keys {
		d.put(int64(100-5*k), of(key, key+1000), api.OK)
	}
	d.close(100, api.OK)
	d.snap(100, 0, 1000, 1, 1001, 2, 1002, 5, 1005, 17, 1017, 63, 1063, 64, 1064, 100, 1100, 3000, 4000, 4096, 5096, 8190, 9190, 8191, 9191)
	d.snap(60, 2, 1002, 63, 1063, 64, 1064, 3000, 4000)
	d.snap(45, 2, 1002)
	d.snap(44)
	d.snap(0)
}

// P12.3: a snapshot has all keys that may be, and tells them in the same way each time.
func TestSnapOfAllKeys(t *testing.T) {
	s := made(t)
	for k := topKey; k >= 0; k -= 64 {
		if err := s.Put(9, many(k-63, 64)); err != api.OK {
			t.Fatal(k, err)
		}
	}
	if err := s.Put(10, of(8192, 1)); err != api.ErrStoreKey {
		t.Error(err)
	}
	if s.Size() != api.MaxKeys || s.Close(9) != api.OK {
		t.Error(s.Size())
	}
	for range 3 {
		l, err := s.Snap(9)
		if err != api.OK || len(l) != api.MaxKeys {
			t.Fatal(len(l), err)
		}
		for key, e := range l {
			if e != (api.Entry{Key: key, V: int64(-100 * (key % 64))}) {
				t.Fatal(key, e)
			}
		}
	}
	if l, err := s.Snap(8); err != api.OK || len(l) != 0 {
		t.Error(few(l), err)
	}
}

// P12.3: what isn't told of all is told by the error that the chapter names first.
func TestSnapRefusedInOrder(t *testing.T) {
	for _, l := range someLots() {
		d := having(t, 50, 30, l...)
		for _, at := range noTimes() {
			d.noSnap(at, api.ErrStoreTime)
		}
		for _, at := range []int64{51, 52, 1000, most - 1, most} {
			d.noSnap(at, api.ErrStoreOpen)
		}
		for _, at := range []int64{0, 1, 28, 29} {
			d.noSnap(at, api.ErrStoreOld)
		}
	}
}

// P12.3: asking changes nothing: a key that was asked for isn't one that was put.
func TestAskingChangesNothing(t *testing.T) {
	d := begun(t)
	d.close(5, api.OK)
	for key := range api.MaxKeys {
		d.s.Get(key, 3)
		d.s.Last(key)
	}
	d.snap(5)
	d.tells(5, 0, 0)
	d.put(6, of(1, 1), api.OK)
	d.close(6, api.OK)
	d.snap(6, 1, 1)
}

// P12.4: by a mark all versions go that count at no time from it on, of each key: those that count at it stay, and those that come later.
func TestPrune(t *testing.T) {
	l := []lot{{10, of(1, 1, 2, 1)}, {20, of(1, 2, 3, 2)}, {30, of(1, 3, 2, 3)}, {31, of(3, 4)}, {60, of(1, 5)}, {70, of(1, 6, 4, 6)}}
	for _, k := range []struct {
		mark int64
		gone int
	}{
		{0, 0}, {1, 0}, {9, 0}, {10, 0}, {11, 0}, {19, 0}, {20, 1}, {21, 1}, {29, 1}, {30, 3}, {31, 4}, {32, 4}, {50, 4}, {59, 4}, {60, 5}, {61, 5}, {65, 5},
	} {
		d := having(t, 65, 0, l...)
		d.tells(65, 0, 10)
		d.prune(k.mark, api.OK)
		d.tells(65, k.mark, 10-k.gone)
		d.prune(k.mark, api.OK)
		d.prune(0, api.OK)
		d.prune(k.mark/2, api.OK)
		d.tells(65, k.mark, 10-k.gone)
	}
}

// P12.4: a store is pruned up to where it is closed, and no further; what is no time is told first.
func TestPruneByClosed(t *testing.T) {
	for _, l := range someLots() {
		for _, closed := range []int64{0, 1, 30, 50, most - 1, most} {
			for _, mark := range []int64{0, 1, 29, 30, 31, 49, 50, 51, closed - 1, closed, closed + 1, closed + 2, most - 1, most} {
				if mark < 0 || mark > most {
					continue
				}
				want := api.OK
				if mark > closed {
					want = api.ErrStoreOpen
				}
				d := having(t, closed, 0, l...)
				d.prune(mark, want)
				d.prune(mark, want)
			}
			d := having(t, closed, closed/2, l...)
			for _, mark := range noTimes() {
				d.prune(mark, api.ErrStoreTime)
			}
		}
	}
}

// P12.4: by a mark that isn't above the one that is there nothing goes, and the mark stays, also behind what was put and closed since.
func TestPruneBack(t *testing.T) {
	for _, l := range someLots() {
		for _, mark := range []int64{0, 1, 10, 31, 50} {
			d := having(t, 50, mark, l...)
			size := d.s.Size()
			d.put(most, of(4000, 1), api.OK)
			d.put(53, of(4000, 1), api.ErrStoreOrder)
			d.put(53, of(4001, 1), api.OK)
			d.close(80, api.OK)
			for _, back := range []int64{0, 1, mark / 2, mark - 2, mark - 1, mark} {
				if back >= 0 && back <= mark {
					d.prune(back, api.OK)
				}
			}
			d.tells(80, mark, size+2)
		}
	}
}

// P12.4: by one mark behind another one goes what goes by the last one alone.
func TestPruneOnAndOn(t *testing.T) {
	for _, l := range someLots() {
		d := having(t, 1000, 0, l...)
		for _, mark := range d.someTimes() {
			if mark > 1000 {
				break
			}
			d.prune(mark, api.OK)
			d.tells(1000, mark, having(t, 1000, mark, l...).s.Size())
		}
	}
}

// P12.2, P12.3, P12.4: a store goes on behind a mark: what counts there stays till a later version does, and a later mark comes.
func TestGoOnBehindMark(t *testing.T) {
	d := having(t, 50, 50, lot{10, of(1, 1)}, lot{20, of(1, 2)}, lot{30, of(1, 3, 2, 3)})
	d.tells(50, 50, 2)
	d.snap(50, 1, 3, 2, 3)
	d.put(51, of(1, 4, 3, 4), api.OK)
	d.noSnap(51, api.ErrStoreOpen)
	d.prune(51, api.ErrStoreOpen)
	d.close(60, api.OK)
	d.snap(50, 1, 3, 2, 3)
	d.snap(51, 1, 4, 2, 3, 3, 4)
	d.prune(51, api.OK)
	d.tells(60, 51, 3)
	d.noSnap(50, api.ErrStoreOld)
	d.close(most, api.OK)
	d.prune(most, api.OK)
	d.tells(most, most, 3)
	d.snap(most, 1, 4, 2, 3, 3, 4)
	d.noSnap(most-1, api.ErrStoreOld)
}

// P12.1 to P12.4: two stores side by side know nothing of each other.
func TestSideBySide(t *testing.T) {
	a, b := begun(t), begun(t)
	a.put(5, of(1, 100, 2, 50), api.OK)
	b.stands()
	b.put(3, of(1, 7), api.OK)
	b.put(4, of(1, 8, 3, 9), api.OK)
	a.stands()
	b.close(20, api.OK)
	a.stands()
	a.put(6, of(1, 90), api.OK)
	b.stands()
	b.prune(20, api.OK)
	a.stands()
	a.close(5, api.OK)
	b.stands()
	a.snap(5, 1, 100, 2, 50)
	b.snap(20, 1, 8, 3, 9)
	a.prune(5, api.OK)
	b.put(21, of(2, 1), api.OK)
	a.tells(5, 5, 3)
	b.tells(20, 20, 3)
	a.stands()
	b.stands()
}
