package store

import (
	"maps"
	"slices"

	"moiety/api"
)

// plain is a store as the chapter's words have it: all versions that didn't go, and all times that it was closed up to, and pruned by.
type plain struct {
	rows          map[int][]api.Version
	closes, marks []int64
}

func newPlain() *plain { return &plain{rows: map[int][]api.Version{}} }

func (p *plain) Closed() int64 { return slices.Max(append([]int64{0}, p.closes...)) }

func (p *plain) Mark() int64 { return slices.Max(append([]int64{0}, p.marks...)) }

// keys is the keys that were ever put, by rising ones.
func (p *plain) keys() []int { return slices.Sorted(maps.Keys(p.rows)) }

func (p *plain) Size() int {
	n := 0
	for _, l := range p.rows {
		n += len(l)
	}
	return n
}

func (p *plain) Last(key int) (api.Version, bool) {
	l := p.rows[key]
	if len(l) == 0 {
		return api.Version{}, false
	}
	return l[len(l)-1], true
}

// entryFault is what is wrong with the k-th entry of a list, as far as it hangs on that.
func (p *plain) entryFault(t int64, l []api.Entry, k int) api.Errno {
	key := l[k].Key
	if key < 0 || key > 8191 {
		return api.ErrStoreKey
	}
	for _, ahead := range l[:k] {
		if ahead.Key == key {
			return api.ErrStoreTwice
		}
	}
	if last, ok := p.Last(key); ok && last.T >= t {
		return api.ErrStoreOrder
	}
	if len(p.rows[key]) >= 10000 {
		return api.ErrStoreFull
	}
	return api.OK
}

func (p *plain) Put(t int64, l []api.Entry) api.Errno {
	if t <= 0 || t > most {
		return api.ErrStoreTime
	}
	if slices.ContainsFunc(p.closes, func(up int64) bool { return t <= up }) {
		return api.ErrStoreOrder
	}
	if len(l) >= 101 {
		return api.ErrStoreMany
	}
	for k := range l {
		if err := p.entryFault(t, l, k); err != api.OK {
			return err
		}
	}
	for _, e := range l {
		p.rows[e.Key] = append(p.rows[e.Key], api.Version{T: t, V: e.V})
	}
	return api.OK
}

func (p *plain) Close(t int64) api.Errno {
	if t < 0 || t > most {
		return api.ErrStoreTime
	}
	p.closes = append(p.closes, t)
	return api.OK
}

// timeFault is why nothing is told of a time.
func (p *plain) timeFault(at int64) api.Errno {
	if at < 0 || at > most {
		return api.ErrStoreTime
	}
	if at > p.Closed() {
		return api.ErrStoreOpen
	}
	if slices.ContainsFunc(p.marks, func(mark int64) bool { return at < mark }) {
		return api.ErrStoreOld
	}
	return api.OK
}

// countsAt is the version that counts at a time: its T isn't above that, and no later version's is.
func countsAt(l []api.Version, at int64) (api.Version, bool) {
	for k := len(l) - 1; k >= 0; k-- {
		if l[k].T <= at {
			return l[k], true
		}
	}
	return api.Version{}, false
}

func (p *plain) Get(key int, at int64) (api.Version, api.Errno) {
	if key < 0 || key > 8191 {
		return api.Version{}, api.ErrStoreKey
	}
	if err := p.timeFault(at); err != api.OK {
		return api.Version{}, err
	}
	v, ok := countsAt(p.rows[key], at)
	if !ok {
		return api.Version{}, api.ErrStoreNone
	}
	return v, api.OK
}

func (p *plain) Snap(at int64) ([]api.Entry, api.Errno) {
	if err := p.timeFault(at); err != api.OK {
		return nil, err
	}
	var l []api.Entry
	for _, key := range p.keys() {
		if v, ok := countsAt(p.rows[key], at); ok {
			l = append(l, api.Entry{Key: key, V: v.V})
		}
	}
	return l, api.OK
}

// Prune looks of each version whether it counts at a time from the mark on: at its own T, if that is one, or else at the mark.
func (p *plain) Prune(mark int64) api.Errno {
	if mark < 0 || mark > most {
		return api.ErrStoreTime
	}
	if !slices.ContainsFunc(p.closes, func(up int64) bool { return up >= mark }) && mark > 0 {
		return api.ErrStoreOpen
	}
	p.marks = append(p.marks, mark)
	mark = p.Mark()
	for key, l := range p.rows {
		atMark, _ := countsAt(l, mark)
		p.rows[key] = slices.DeleteFunc(slices.Clone(l), func(v api.Version) bool { return v.T < mark && v != atMark })
	}
	return api.OK
}
