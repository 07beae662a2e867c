package store

import (
	"math"
	"slices"
	"testing"

	"moiety/api"
)

const (
	most     = int64(api.MaxTime)
	low      = int64(math.MinInt64)
	high     = int64(math.MaxInt64)
	topKey   = api.MaxKeys - 1
	leastInt = math.MinInt
	mostInt  = math.MaxInt
)

// noTimes is numbers that are no times: those next to times and the ends among them.
func noTimes() []int64 {
	return []int64{-1, -2, -1000, -most, most + 1, most + 2, 2 * most, 1 << 62, -1 << 62, low, low + 1, high - 1, high}
}

// noStamps is numbers that are no stamps: 0 is a time, but no stamp.
func noStamps() []int64 { return append(noTimes(), 0) }

// someNumbers is numbers of any kind, both ends among them.
func someNumbers() []int64 { return append(noTimes(), 0, 1, 100, most-1, most) }

// noKeys is numbers that are no keys: those next to keys and the ends among them.
func noKeys() []int {
	return []int{-1, -2, -8191, -8192, 8192, 8193, 16384, 1 << 40, -1 << 40, leastInt, leastInt + 1, mostInt - 1, mostInt}
}

// of is entries, each by its key and its V.
func of(l ...int64) []api.Entry {
	var all []api.Entry
	for k := 0; k < len(l); k += 2 {
		all = append(all, api.Entry{Key: int(l[k]), V: l[k+1]})
	}
	return all
}

// many is so many entries of keys from one on, each with a V of its own.
func many(from, n int) []api.Entry {
	var all []api.Entry
	for k := range n {
		all = append(all, api.Entry{Key: from + k, V: int64(-100 * k)})
	}
	return all
}

// few is the first ones of entries, to be shown.
func few(l []api.Entry) []api.Entry { return l[:min(len(l), 20)] }

// aroundAll is times just below, at and just above some, and those at both ends of all times, as far as they are times.
func aroundAll(l ...int64) []int64 {
	var all []int64
	for _, t := range append(l, 0, most) {
		for _, at := range []int64{t - 1, t, t + 1} {
			if at >= 0 && at <= most {
				all = append(all, at)
			}
		}
	}
	slices.Sort(all)
	return slices.Compact(all)
}

// made is a new store.
func made(t *testing.T) *Store {
	t.Helper()
	s := New()
	if s == nil {
		t.Fatal("no store")
	}
	return s
}

// pair is a store, and a plain one that is told the same.
type pair struct {
	*testing.T
	s *Store
	p *plain
}

// begun is a new store, which stands as a plain one.
func begun(t *testing.T) *pair {
	t.Helper()
	d := &pair{t, made(t), newPlain()}
	d.stands()
	return d
}

// lot is what a store is put at a stamp.
type lot struct {
	t int64
	l []api.Entry
}

// having is a store that was put some things, closed up to a time then, and pruned by a mark.
func having(t *testing.T, closed, mark int64, l ...lot) *pair {
	t.Helper()
	d := &pair{t, made(t), newPlain()}
	for _, x := range l {
		if err := d.s.Put(x.t, x.l); err != api.OK {
			t.Fatal(x, err)
		}
		d.p.Put(x.t, x.l)
	}
	for _, err := range []api.Errno{d.s.Close(closed), d.s.Prune(mark), d.p.Close(closed), d.p.Prune(mark)} {
		if err != api.OK {
			t.Fatal(closed, mark, err)
		}
	}
	d.stands()
	return d
}

// someKeys is keys that a store is asked for: those that were ever put, those next to them, those at both ends, and numbers that are none.
func (d *pair) someKeys() []int {
	l := append(noKeys(), 0, 1, 2, 4096, topKey-1, topKey)
	for _, key := range d.p.keys() {
		l = append(l, key-1, key, key+1)
	}
	slices.Sort(l)
	return slices.Compact(l)
}

// someTimes is times that a store is asked for: those just below, at and just above the mark, the time up to which it is closed and each version's T.
func (d *pair) someTimes() []int64 {
	l := []int64{d.p.Mark(), d.p.Closed()}
	for _, row := range d.p.rows {
		for _, v := range row {
			l = append(l, v.T)
		}
	}
	return aroundAll(l...)
}

// stands holds all that the store tells, of all keys that matter, at all times that do, and at numbers that are none, against what the plain one does.
func (d *pair) stands() {
	d.Helper()
	d.standsAt(append(d.someTimes(), noTimes()...)...)
}

// standsAt is the same at some times alone.
func (d *pair) standsAt(times ...int64) {
	d.Helper()
	if got, want := d.s.Closed(), d.p.Closed(); got != want {
		d.Errorf("Closed() = %d, want %d", got, want)
	}
	if got, want := d.s.Mark(), d.p.Mark(); got != want {
		d.Errorf("Mark() = %d, want %d", got, want)
	}
	if got, want := d.s.Size(), d.p.Size(); got != want {
		d.Errorf("Size() = %d, want %d", got, want)
	}
	keys := d.someKeys()
	for _, key := range keys {
		got, ok := d.s.Last(key)
		if want, there := d.p.Last(key); got != want || ok != there {
			d.Errorf("Last(%d) = %v, %v, want %v, %v", key, got, ok, want, there)
		}
	}
	for _, at := range times {
		d.tellsAlike(at, keys)
	}
}

// tellsAlike holds what the store tells of a time against what the plain one does.
func (d *pair) tellsAlike(at int64, keys []int) {
	d.Helper()
	got, err := d.s.Snap(at)
	if want, wantErr := d.p.Snap(at); !slices.Equal(got, want) || err != wantErr {
		d.Errorf("Snap(%d) is %d entries, %v, %d, want %d, %v, %d", at, len(got), few(got), err, len(want), few(want), wantErr)
	}
	for _, key := range keys {
		got, err := d.s.Get(key, at)
		if want, wantErr := d.p.Get(key, at); got != want || err != wantErr {
			d.Errorf("Get(%d, %d) = %v, %d, want %v, %d", key, at, got, err, want, wantErr)
		}
	}
}

// answers holds a call's answer against what it is to be, by the test and by the plain store, and then how the store stands.
func (d *pair) answers(call string, err, plain, want api.Errno) {
	d.Helper()
	if err != want || plain != want {
		d.Errorf("%s = %d, want %d (by the words: %d)", call, err, want, plain)
	}
	d.stands()
}

func (d *pair) put(at int64, l []api.Entry, want api.Errno) {
	d.Helper()
	d.answers("Put", d.s.Put(at, l), d.p.Put(at, l), want)
}

func (d *pair) close(at int64, want api.Errno) {
	d.Helper()
	d.answers("Close", d.s.Close(at), d.p.Close(at), want)
}

func (d *pair) prune(mark int64, want api.Errno) {
	d.Helper()
	d.answers("Prune", d.s.Prune(mark), d.p.Prune(mark), want)
}

// get holds the version of a key that counts at a time against what it is to be.
func (d *pair) get(key int, at, stamp, v int64) {
	d.Helper()
	want := api.Version{T: stamp, V: v}
	if got, err := d.s.Get(key, at); got != want || err != api.OK {
		d.Errorf("Get(%d, %d) = %v, %d, want %v", key, at, got, err, want)
	}
	d.stands()
}

// none asks for a version that isn't told.
func (d *pair) none(key int, at int64, want api.Errno) {
	d.Helper()
	if got, err := d.s.Get(key, at); got != (api.Version{}) || err != want {
		d.Errorf("Get(%d, %d) = %v, %d, want %d", key, at, got, err, want)
	}
	d.stands()
}

// snap holds what all keys have at a time against what they are to have.
func (d *pair) snap(at int64, want ...int64) {
	d.Helper()
	if got, err := d.s.Snap(at); !slices.Equal(got, of(want...)) || err != api.OK {
		d.Errorf("Snap(%d) = %v, %d, want %v", at, got, err, of(want...))
	}
	d.stands()
}

// noSnap asks for what all keys have at a time that isn't told of.
func (d *pair) noSnap(at int64, want api.Errno) {
	d.Helper()
	if got, err := d.s.Snap(at); len(got) != 0 || err != want {
		d.Errorf("Snap(%d) = %v, %d, want %d", at, got, err, want)
	}
	d.stands()
}

// last holds a key's last version against what it is to be.
func (d *pair) last(key int, stamp, v int64) {
	d.Helper()
	want := api.Version{T: stamp, V: v}
	if got, ok := d.s.Last(key); got != want || !ok {
		d.Errorf("Last(%d) = %v, %v, want %v", key, got, ok, want)
	}
}

// noLast asks for the last version of a key that has none.
func (d *pair) noLast(key int) {
	d.Helper()
	if got, ok := d.s.Last(key); got != (api.Version{}) || ok {
		d.Errorf("Last(%d) = %v, %v", key, got, ok)
	}
}

// tells holds the time up to which the store is closed, its mark and its size against what they are to be.
func (d *pair) tells(closed, mark int64, size int) {
	d.Helper()
	if d.s.Closed() != closed || d.s.Mark() != mark || d.s.Size() != size {
		d.Errorf("Closed, Mark, Size: %d %d %d, want %d %d %d", d.s.Closed(), d.s.Mark(), d.s.Size(), closed, mark, size)
	}
}

// P12.1 to P12.4: the chapter's examples.
func TestExamples(t *testing.T) {
	d := begun(t)
	d.put(5, of(1, 100, 2, 50), api.OK)
	d.put(9, of(2, 80), api.OK)
	d.put(7, of(1, 70), api.OK)
	d.put(7, of(1, 1), api.ErrStoreOrder)
	d.noSnap(8, api.ErrStoreOpen)
	d.close(9, api.OK)
	d.snap(8, 1, 70, 2, 50)
	d.snap(9, 1, 70, 2, 80)
	d.snap(4)
	d.put(9, of(3, 1), api.ErrStoreOrder)
	d.prune(9, api.OK)
	d.noSnap(8, api.ErrStoreOld)
	d.tells(9, 9, 2)
}

// P12.1 to P12.4: a new store has no version, it is closed up to 0, its mark is 0, and of 0 it tells that there is nothing.
func TestNew(t *testing.T) {
	d := begun(t)
	d.tells(0, 0, 0)
	d.snap(0)
	for _, key := range []int{0, 1, 4096, topKey} {
		d.none(key, 0, api.ErrStoreNone)
		d.none(key, 1, api.ErrStoreOpen)
		d.none(key, most, api.ErrStoreOpen)
		d.noLast(key)
	}
	for _, at := range []int64{1, 2, most - 1, most} {
		d.noSnap(at, api.ErrStoreOpen)
	}
	for _, at := range noTimes() {
		d.noSnap(at, api.ErrStoreTime)
		d.none(5, at, api.ErrStoreTime)
	}
}
