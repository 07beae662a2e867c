package locks

import (
	"slices"
	"testing"

	"moiety/api"
)

// spoil changes all that a list has, what stands in its spare room too.
func spoil[T any](l []T, by T) {
	l = l[:cap(l)]
	for k := range l {
		l[k] = by
	}
}

// lists is all lists that a table told of, and what they were.
type lists struct {
	held, heldWere     [][]api.Hold
	got, gotWere       [][]api.Grant
	wounded, woundWere [][]int
}

func (x *lists) holds(l []api.Hold) {
	x.held, x.heldWere = append(x.held, l), append(x.heldWere, slices.Clone(l))
}

func (x *lists) grants(l []api.Grant) {
	x.got, x.gotWere = append(x.got, l), append(x.gotWere, slices.Clone(l))
}

func (x *lists) wounds(l []int) {
	x.wounded, x.woundWere = append(x.wounded, l), append(x.woundWere, slices.Clone(l))
}

// stay holds all lists against what they were.
func (x *lists) stay(t *testing.T) {
	t.Helper()
	if !slices.EqualFunc(x.held, x.heldWere, slices.Equal) || !slices.EqualFunc(x.got, x.gotWere, slices.Equal) || !slices.EqualFunc(x.wounded, x.woundWere, slices.Equal) {
		t.Error("a list that was told is another one now")
	}
}

// busy is a table with holders and waiting ones on some keys.
func busy(t *testing.T) *pair {
	t.Helper()
	d := begun(t)
	for _, tx := range []int{12, 15, 11, 14, 13} {
		d.ask(tx, 7, read, "granted")
		d.ask(tx, 9, read, "granted")
	}
	d.ask(12, 3, write, "granted")
	for _, tx := range []int{32, 31, 33} {
		d.ask(tx, 3, read, "waits")
	}
	for _, tx := range []int{25, 21, 23} {
		d.ask(tx, 9, write, "waits")
	}
	return d
}

// P13.1: what came of an ask is its owner's: changed later, it changes nothing.
func TestTurnIsItsOwners(t *testing.T) {
	d := busy(t)
	x, err := d.asks(5, 7, write)
	if turn(x) != "granted; wounded 11 12 13 14 15; woken 31 3, 32 3, 33 3, 21 9" || err != api.OK {
		t.Fatal(turn(x), err)
	}
	spoil(x.Wounded, 5)
	spoil(x.Woken, api.Grant{Tx: 5, Key: 7})
	d.stands()
	d.end(5, "")
	d.end(21, "23 9")
	d.end(12, "")
	d.ask(12, 3, read, "granted")
}

// P13.2: so is what came of an end.
func TestGrantsAreTheirOwners(t *testing.T) {
	d := busy(t)
	l, err := d.ends(12)
	if grants(l) != "31 3, 32 3, 33 3" || err != api.OK {
		t.Fatal(grants(l), err)
	}
	spoil(l, api.Grant{Tx: 11, Key: 9})
	d.stands()
	d.end(31, "")
	d.ask(30, 3, write, "granted; wounded 32 33")
}

// P13.3: so is who holds a key, and who waits for it: what he changes, or puts behind them, the table doesn't see, nor does who was told another one.
func TestListsAreTheirOwners(t *testing.T) {
	d := busy(t)
	for _, tell := range []func(int) []api.Hold{d.t.Holds, d.t.Waits} {
		for _, key := range []int{3, 7, 9} {
			first, second := tell(key), tell(key)
			were := slices.Clone(second)
			_ = append(first, api.Hold{Tx: 1, Write: write})
			spoil(first, api.Hold{Tx: 99, Write: write})
			if !slices.Equal(second, were) {
				t.Errorf("of %d: told %v, is %v", key, were, second)
			}
			spoil(second, api.Hold{Tx: 98})
			d.stands()
		}
	}
	d.end(12, "31 3, 32 3, 33 3")
}

// P13.1 to P13.3: what comes later changes no list that was told.
func TestListsStayWithTheirOwners(t *testing.T) {
	table := made(t)
	var all lists
	for k := range 3000 {
		tx := 1 + k*7%41
		if table.Dead(tx) || k%5 == 4 {
			l, err := table.End(tx)
			if err != api.OK {
				t.Fatal(tx, err)
			}
			all.grants(l)
		} else if x, err := table.Ask(tx, k*3%11, k%3 == 0); err == api.OK {
			all.wounds(x.Wounded)
			all.grants(x.Woken)
		}
		for key := range 11 {
			all.holds(table.Holds(key))
			all.holds(table.Waits(key))
		}
		if k%100 == 99 {
			all.stay(t)
		}
	}
	all.stay(t)
}

// P13.1 to P13.3: two tables side by side know nothing of each other.
func TestTablesSideBySide(t *testing.T) {
	a, b := begun(t), begun(t)
	a.ask(5, 7, write, "granted")
	b.ask(5, 7, read, "granted")
	a.ask(6, 7, read, "waits")
	b.ask(6, 7, read, "granted")
	a.ask(4, 7, write, "granted; wounded 5")
	b.dead(false, 4, 5, 6)
	b.holds(7, "5 reads, 6 reads", "")
	b.end(5, "")
	a.dead(true, 5)
	a.end(4, "6 7")
	b.holds(7, "6 reads", "")
	a.stands()
	b.stands()
}

// P13.2, P13.3: nothing is kept of keys that nobody holds, of those that ended, or of what the dead had.
func TestKeepsNoMore(t *testing.T) {
	d := busy(t)
	d.ask(1, 7, write, "granted; wounded 11 12 13 14 15; woken 31 3, 32 3, 33 3, 21 9")
	for tx := 11; tx <= 15; tx++ {
		if n := len(d.t.parties[tx].keys); n > 0 {
			t.Errorf("%d is dead, and has %d keys", tx, n)
		}
	}
	for tx := 1; tx < 34; tx++ {
		d.ends(tx)
	}
	if len(d.t.rows)+len(d.t.parties) > 0 {
		t.Error("something is kept:", d.t.rows, d.t.parties)
	}
}
