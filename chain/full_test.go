package chain

import (
	"testing"

	"moiety/api"
)

// apart is how far apart the stamps of a long chain are.
const apart = 3

// stampAt is the stamp of the k-th version of a long chain, from 1 on.
func stampAt(k int) int64 { return int64(apart * k) }

// long is a chain of so many versions, and what it has.
func long(t *testing.T, n int) (*Chain, []api.Version) {
	t.Helper()
	c := made(t)
	l := make([]api.Version, n)
	for k := range l {
		l[k] = api.Version{T: stampAt(k + 1), V: int64(-k)}
		if err := c.Put(l[k].T, l[k].V); err != api.OK {
			t.Fatal(k, l[k], err)
		}
	}
	return c, l
}

// isFull holds that a chain has no room, however far behind a version comes; and that it tells all other errors ahead of that.
func isFull(t *testing.T, c *Chain) {
	t.Helper()
	last, _ := c.Last()
	for _, at := range []int64{last.T + 1, last.T + 2, c.Mark() + 1, most - 1, most} {
		if at > last.T && at > c.Mark() && at <= most {
			put(t, c, at, 1, api.ErrChainFull)
		}
	}
	for _, at := range []int64{1, last.T - 1, last.T, c.Mark()} {
		if at >= 1 && (at <= last.T || at <= c.Mark()) {
			put(t, c, at, 1, api.ErrChainOrder)
		}
	}
	for _, at := range noStamps() {
		put(t, c, at, 1, api.ErrChainTime)
	}
}

// P11.1: 10000 versions have room in a chain, and one more hasn't; a full chain tells what it has, and goes on telling it.
func TestFull(t *testing.T) {
	c, l := long(t, api.MaxVersions-1)
	stands(t, c, 0, l...)
	put(t, c, stampAt(api.MaxVersions), 7, api.OK)
	l = append(l, api.Version{T: stampAt(api.MaxVersions), V: 7})
	isFull(t, c)
	stands(t, c, 0, l...)
	for _, k := range []int{0, 1, 2, 4999, 9997, 9998, 9999} {
		get(t, c, l[k].T, l[k])
		get(t, c, l[k].T+apart-1, l[k])
	}
	none(t, c, stampAt(1)-1, api.ErrChainNone)
	get(t, c, most, l[9999])
}

// P11.1: a full chain is full at the end of all times too, where its order is told first.
func TestFullAtMaxTime(t *testing.T) {
	c, _ := long(t, api.MaxVersions-1)
	put(t, c, most, 7, api.OK)
	put(t, c, most, 7, api.ErrChainOrder)
	put(t, c, most+1, 7, api.ErrChainTime)
	put(t, c, 0, 7, api.ErrChainTime)
}

// P11.1, P11.3: a full chain that is pruned has as much room as versions went, and is full again behind these.
func TestFullPruned(t *testing.T) {
	for _, k := range []struct {
		mark int64
		gone int
	}{
		{0, 0}, {1, 0}, {stampAt(1), 0}, {stampAt(2) - 1, 0}, {stampAt(2), 1}, {stampAt(2) + 1, 1}, {stampAt(3), 2}, {stampAt(5001), 5000},
		{stampAt(10000) - 1, 9998}, {stampAt(10000), 9999}, {stampAt(10000) + 1, 9999}, {stampAt(10000) + 50, 9999},
	} {
		c, l := long(t, api.MaxVersions)
		prune(t, c, k.mark, k.gone)
		l = l[k.gone:]
		from := max(stampAt(10000), k.mark)
		for n := range k.gone {
			v := api.Version{T: from + 1 + int64(n), V: int64(n)}
			if err := c.Put(v.T, v.V); err != api.OK {
				t.Fatal(k, n, err)
			}
			l = append(l, v)
		}
		stands(t, c, k.mark, l...)
		isFull(t, c)
	}
}

// P11.1, P11.3: a full chain goes on as long as a version goes ahead of each that comes.
func TestFullOnAndOn(t *testing.T) {
	c, l := long(t, api.MaxVersions)
	for k := range 300 {
		put(t, c, stampAt(10001+k), 5, api.ErrChainFull)
		prune(t, c, stampAt(2+k), 1)
		put(t, c, stampAt(10001+k), int64(k), api.OK)
		l = append(l[1:], api.Version{T: stampAt(10001 + k), V: int64(k)})
	}
	stands(t, c, stampAt(301), l...)
	isFull(t, c)
}
