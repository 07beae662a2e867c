package chain

import (
	"slices"
	"testing"

	"moiety/api"
)

// spoil changes versions, and what stands in the spare room behind them.
func spoil(l []api.Version) {
	l = l[:cap(l)]
	for k := range l {
		l[k] = api.Version{T: -7, V: 777}
	}
}

// P11.1: a list that was told is its owner's: what he changes, or puts behind it, the chain does not see, nor does anyone who was told another one.
func TestListIsItsOwners(t *testing.T) {
	for _, l := range someChains() {
		for _, mark := range append(stampsOf(l), 0, most) {
			c := having(t, mark, l...)
			first, second := c.List(), c.List()
			want := slices.Clone(second)
			_ = append(first, of(1, 2, 3, 4)...)
			spoil(first)
			if !slices.Equal(second, want) {
				t.Errorf("told %v, is %v", want, second)
			}
			spoil(second) // the last one that was told
			stands(t, c, mark, want...)
			for _, at := range aroundAll(stampsOf(l)...) {
				told(t, c, l, mark, at)
			}
		}
	}
}

// P11.1: the owner puts something behind his list, and the chain gets another version: neither sees the other's.
func TestListPutBehind(t *testing.T) {
	for n := range 40 {
		c, l := long(t, n)
		his := append(c.List(), api.Version{T: 1, V: 2})
		if err := c.Put(stampAt(n+1), 3); err != api.OK {
			t.Fatal(n, err)
		}
		if want := append(slices.Clone(l), api.Version{T: 1, V: 2}); !slices.Equal(his, want) {
			t.Errorf("%d: his is %v, want %v", n, few(his), few(want))
		}
		next := append(c.List(), api.Version{T: 4, V: 5})
		stands(t, c, 0, append(l, api.Version{T: stampAt(n + 1), V: 3})...)
		if last := next[len(next)-1]; last != (api.Version{T: 4, V: 5}) {
			t.Error(n, last)
		}
	}
}

// P11.1: what comes later changes no list that was told: neither a later version, nor a mark.
func TestListStays(t *testing.T) {
	c := made(t)
	var lists, were [][]api.Version
	for k := range int64(60) {
		if err := c.Put(10*k+5, k); err != api.OK {
			t.Fatal(k, err)
		}
		lists = append(lists, c.List())
		were = append(were, slices.Clone(c.List()))
		if k%4 == 3 {
			if err := c.Prune(10*k - 20); err != api.OK {
				t.Fatal(k, err)
			}
			lists = append(lists, c.List())
			were = append(were, slices.Clone(c.List()))
		}
	}
	for k := range lists {
		if !slices.Equal(lists[k], were[k]) {
			t.Errorf("list %d: told %v, is %v", k, were[k], lists[k])
		}
	}
}

// P11.2: a version that was told is its owner's too.
func TestVersionIsItsOwners(t *testing.T) {
	c := having(t, 0, of(5, 100, 9, 80)...)
	v, _ := c.Get(5)
	last, _ := c.Last()
	v.V, last.V, last.T = 1, 2, 3
	stands(t, c, 0, of(5, 100, 9, 80)...)
	get(t, c, 5, api.Version{T: 5, V: 100})
}

// P11.3: what stays has memory of its own: nothing that is put later is written behind the versions that went, or over them, and they aren't kept.
func TestWhatWentIsLeftAlone(t *testing.T) {
	for _, n := range []int{2, 3, 5, 8, 100, 1000} {
		for _, gone := range []int{1, 2, n / 2, n - 1} {
			if gone < 1 || gone >= n {
				continue
			}
			c, l := long(t, n)
			old := c.versions[:cap(c.versions)]
			was := slices.Clone(old)
			prune(t, c, stampAt(gone+1), gone)
			for k := range n {
				put(t, c, stampAt(n+1+k), 9, api.OK)
			}
			if !slices.Equal(old, was) {
				t.Errorf("%d of %d: %v, were %v", gone, n, few(old), few(was))
			}
			spoil(old)
			if got := c.List()[:n-gone]; !slices.Equal(got, l[gone:]) {
				t.Errorf("%d of %d: %v stayed, want %v", gone, n, few(got), few(l[gone:]))
			}
		}
	}
}
