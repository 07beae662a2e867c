package store

import (
	"testing"

	"moiety/api"
)

// stampAt is the stamp of the k-th version of a long chain, from 1 on.
func stampAt(k int) int64 { return int64(3 * k) }

// long gives keys so many versions each, at one stamp each time.
func (d *pair) long(n int, keys ...int) {
	d.Helper()
	l := make([]api.Entry, len(keys))
	for k := range n {
		at := stampAt(k + 1)
		for i, key := range keys {
			l[i] = api.Entry{Key: key, V: int64(key - k)}
			d.p.rows[key] = append(d.p.rows[key], api.Version{T: at, V: l[i].V})
		}
		if err := d.s.Put(at, l); err != api.OK {
			d.Fatal(k, err)
		}
	}
}

// longTimes is times by which a long store is asked: at its versions near both ends and in the middle.
func (d *pair) longTimes() []int64 {
	l := []int64{d.p.Mark(), d.p.Closed()}
	for _, k := range []int{1, 2, 3, 4999, 5000, 5001, 9997, 9998, 9999, 10000, 10001} {
		l = append(l, stampAt(k))
	}
	return append(aroundAll(l...), noTimes()...)
}

// puts puts something into a long store, and holds the answer, and how it stands, against what they are to be.
func (d *pair) puts(at int64, l []api.Entry, want api.Errno) {
	d.Helper()
	err := d.s.Put(at, l)
	if byWords := d.p.Put(at, l); err != want || byWords != want {
		d.Errorf("Put(%d, %v) = %d, want %d (by the words: %d)", at, few(l), err, want, byWords)
	}
	d.standsAt(d.p.Mark(), d.p.Closed())
}

// P12.1: 10000 versions have room in a key, and one more hasn't; a full key is told so behind all other errors, and the others go on.
func TestFull(t *testing.T) {
	d := begun(t)
	d.long(9999, 7)
	d.tells(0, 0, 9999)
	d.puts(stampAt(9999), of(7, 1), api.ErrStoreOrder)
	d.puts(stampAt(10000), of(7, 1, 7, 1), api.ErrStoreTwice)
	d.puts(stampAt(10000), of(7, 1), api.OK)
	d.tells(0, 0, 10000)
	for _, at := range []int64{stampAt(10000) + 1, stampAt(10001), most - 1, most} {
		d.puts(at, of(7, 1), api.ErrStoreFull)
		d.puts(at, of(7, 1, 7, 1), api.ErrStoreFull)
		d.puts(at, of(8, 1, 7, 1), api.ErrStoreFull)
		d.puts(at, of(8, 1, 8, 1, 7, 1), api.ErrStoreTwice)
		d.puts(at, of(8, 1, -1, 1, 7, 1), api.ErrStoreKey)
		d.puts(at, of(7, 1, -1, 1), api.ErrStoreFull)
		d.puts(at, of(-1, 1, 7, 1), api.ErrStoreKey)
		d.puts(at, many(0, 101), api.ErrStoreMany)
		d.noLast(8)
	}
	for _, at := range []int64{1, stampAt(1), stampAt(5000), stampAt(10000) - 1, stampAt(10000)} {
		d.puts(at, of(7, 1), api.ErrStoreOrder)
		d.puts(at, of(7, 1, 8, 1), api.ErrStoreOrder)
	}
	for _, at := range noStamps() {
		d.puts(at, of(7, 1), api.ErrStoreTime)
	}
	d.puts(5, of(8, 1), api.OK)
	d.puts(most, of(8, 1, 6, 1), api.OK)
	d.tells(0, 0, 10003)
	d.s.Close(most)
	d.p.Close(most)
	d.standsAt(d.longTimes()...)
	d.puts(most, of(7, 1), api.ErrStoreOrder)
}

// P12.1: keys are full one by one, among others that aren't; what has a full one in it is refused as a whole, wherever that stands.
func TestFullAmongOthers(t *testing.T) {
	d := begun(t)
	d.long(9998, 0, 5, 8191)
	at := stampAt(9999)
	d.puts(at, of(5, 1, 3, 1), api.OK)
	d.puts(at+1, of(5, 2, 0, 2), api.OK) // 5 is full, 0 has 9999, 8191 has 9998
	d.puts(at+2, of(5, 3), api.ErrStoreFull)
	d.puts(at+2, of(0, 3, 5, 3, 8191, 3), api.ErrStoreFull)
	d.puts(at+2, of(0, 3, 8191, 3, 3, 3, 5, 3), api.ErrStoreFull)
	d.puts(at+2, append(many(100, 99), of(5, 1)...), api.ErrStoreFull)
	d.puts(at+2, append(many(100, 99), of(0, 1)...), api.OK) // 0 is full
	d.puts(at+3, of(8191, 1), api.OK)
	d.puts(at+3, of(3, 1, 0, 1), api.ErrStoreFull)
	d.puts(at+4, of(8191, 1), api.OK) // 8191 is full
	d.puts(at+5, of(8191, 1), api.ErrStoreFull)
	d.puts(at+5, of(1, 1, 0, 1, 8191, 1), api.ErrStoreFull)
	d.puts(at+5, of(3, 1, 1, 1), api.OK)
	d.tells(0, 0, 3*10000+99+3)
	d.s.Close(at + 4)
	d.p.Close(at + 4)
	d.standsAt(d.longTimes()...)
}

// P12.1, P12.4: a full key that is pruned has as much room as versions went, and is full again behind these.
func TestFullPruned(t *testing.T) {
	for _, k := range []struct {
		mark int64
		gone int
	}{
		{0, 0}, {1, 0}, {stampAt(2) - 1, 0}, {stampAt(2), 1}, {stampAt(2) + 1, 1}, {stampAt(3), 2}, {stampAt(5001), 5000}, {stampAt(10000) - 1, 9998}, {stampAt(10000), 9999}, {stampAt(10000) + 50, 9999},
	} {
		d := begun(t)
		d.long(10000, 4)
		closed := stampAt(10000) + 60
		for _, err := range []api.Errno{d.s.Close(closed), d.s.Prune(k.mark), d.p.Close(closed), d.p.Prune(k.mark)} {
			if err != api.OK {
				t.Fatal(k, err)
			}
		}
		d.tells(closed, k.mark, 10000-k.gone)
		d.standsAt(d.longTimes()...)
		for n := range k.gone {
			at, l := closed+1+int64(n), of(4, int64(n))
			if err := d.s.Put(at, l); err != api.OK {
				t.Fatal(k, n, err)
			}
			d.p.rows[4] = append(d.p.rows[4], api.Version{T: at, V: int64(n)})
		}
		d.puts(closed+20000, of(4, 1), api.ErrStoreFull)
		d.puts(closed+20000, of(5, 1), api.OK)
		d.tells(closed, k.mark, 10001)
	}
}

// P12.1, P12.4: a full key goes on as long as a version goes ahead of each that comes.
func TestFullOnAndOn(t *testing.T) {
	d := begun(t)
	d.long(10000, 4, 9)
	for k := range 100 {
		at := stampAt(10001 + k)
		d.puts(at, of(4, 1), api.ErrStoreFull)
		for _, err := range []api.Errno{d.s.Close(stampAt(2 + k)), d.s.Prune(stampAt(2 + k)), d.p.Close(stampAt(2 + k)), d.p.Prune(stampAt(2 + k))} {
			if err != api.OK {
				t.Fatal(k, err)
			}
		}
		d.tells(stampAt(2+k), stampAt(2+k), 20000-2)
		d.puts(at, of(4, 1, 9, 2), api.OK)
		d.tells(stampAt(2+k), stampAt(2+k), 20000)
	}
	d.puts(most, of(9, 1), api.ErrStoreFull)
}
