package vault

import (
	"slices"
	"testing"

	"moiety/api"
)

// spoil changes what a list has, and what stands in the spare room behind it.
func spoil[T any](l []T, with T) {
	l = l[:cap(l)]
	for k := range l {
		l[k] = with
	}
}

// busy is a vault in which much was done, some of which is held.
func busy(t *testing.T) *pair {
	t.Helper()
	d := having(t, 0.5, 1, 100, 2, 100, 3, 100, 4, 100, 5, 100)
	d.hold(10, pays(1, 1, 10), api.OK)
	d.hold(11, gets(2, 2, 10), api.OK)
	d.commit(12, 1, api.OK)
	d.commit(12, 2, api.OK)
	d.close(12, api.OK)
	d.hold(20, pays(9, 3, 10), api.OK)
	d.hold(21, gets(8, 4, 10), api.OK)
	d.hold(22, pays(7, 5, 10), api.OK)
	return d
}

// P15.5: a snapshot that was told is its owner's: what he changes, or puts behind it, the vault doesn't see, nor does anyone who was told another one.
func TestSnapIsItsOwners(t *testing.T) {
	d := busy(t)
	for _, at := range []int64{0, 1, 5, 11, 12} {
		first, _ := d.v.Snap(at)
		second, _ := d.v.Snap(at)
		want := slices.Clone(second)
		_ = append(first, of(1, 2, 3, 4)...)
		spoil(first, api.Entry{Key: 777, V: 777})
		if !slices.Equal(second, want) {
			t.Errorf("told %v, is %v", want, second)
		}
		spoil(second, api.Entry{Key: 777, V: 777}) // the last one that was told
		d.stands()
	}
}

// P15.5: so are the parts that are held.
func TestHeldIsItsOwners(t *testing.T) {
	d := busy(t)
	other := api.Held{Part: gets(777, 777, 777), T: 777, Fee: 777}
	first, second := d.v.Held(), d.v.Held()
	want := slices.Clone(second)
	_ = append(first, other, other)
	spoil(first, other)
	if !slices.Equal(second, want) {
		t.Errorf("told %v, is %v", want, second)
	}
	spoil(second, other)
	d.stands()
	d.commit(30, 9, api.OK)
	d.drop(8, api.OK)
	d.commit(22, 7, api.OK)
	d.hold(31, pays(777, 1, 1), api.OK)
}

// P15.5: what comes later changes no list that was told: no part that is held, committed or dropped, no account, no mark, and no list that is told.
func TestListsStayWithTheirOwner(t *testing.T) {
	d := busy(t)
	var snaps, wereSnaps [][]api.Entry
	var helds, wereHelds [][]api.Held
	tell := func() {
		for _, at := range []int64{d.v.Mark(), d.v.Closed()} {
			l, err := d.v.Snap(at)
			if err != api.OK {
				t.Fatal(at, err)
			}
			snaps, wereSnaps = append(snaps, l), append(wereSnaps, slices.Clone(l))
		}
		l := d.v.Held()
		helds, wereHelds = append(helds, l), append(wereHelds, slices.Clone(l))
	}
	tell()
	for k := range int64(40) {
		at := 30 + 10*k
		d.hold(at, api.Part{ID: int(100 - k), Account: int(1 + k%2), N: 1 + k%7, Pays: k%4 < 2}, api.OK)
		tell()
		if k%5 == 4 {
			d.drop(int(100-k), api.OK)
		} else {
			d.commit(at+1, int(100-k), api.OK)
		}
		tell()
		switch k {
		case 5:
			d.commit(60, 9, api.OK)
		case 10:
			d.drop(8, api.OK)
		case 15:
			d.commit(22, 7, api.OK)
		case 20:
			d.open(at+3, 9, 50, api.OK)
		}
		if k > 20 {
			d.close(at+5, api.OK)
			d.prune(at-30, api.OK)
		}
		tell()
	}
	for k := range snaps {
		if !slices.Equal(snaps[k], wereSnaps[k]) {
			t.Errorf("snapshot %d: told %v, is %v", k, wereSnaps[k], snaps[k])
		}
	}
	for k := range helds {
		if !slices.Equal(helds[k], wereHelds[k]) {
			t.Errorf("held %d: told %v, is %v", k, wereHelds[k], helds[k])
		}
	}
}

// P15.1 to P15.5: what is done in a vault changes nothing in another one.
func TestSideBySide(t *testing.T) {
	a, b := begun(t, 0.5), begun(t, 0)
	both := func() {
		a.stands()
		b.stands()
	}
	a.open(1, 7, 100, api.OK)
	both()
	b.open(1, 7, 50, api.OK)
	both()
	a.hold(5, pays(1, 7, 10), api.OK)
	both()
	b.hold(3, gets(1, 7, 10), api.OK)
	both()
	a.commit(6, 1, api.OK)
	both()
	b.drop(1, api.OK)
	both()
	a.close(9, api.OK)
	both()
	a.prune(8, api.OK)
	both()
	b.close(4, api.OK)
	b.snap(4, 7, 50)
	a.snap(9, 7, 85, 4103, 5)
	both()
}
