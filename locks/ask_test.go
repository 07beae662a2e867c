package locks

import (
	"slices"
	"testing"

	"moiety/api"
)

// P13.1: a key that is free is granted at once, to read and to write, whatever transaction asks for whatever key.
func TestAskFree(t *testing.T) {
	for _, tx := range []int{1, 2, 8191, 8192, 1 << 31, 1 << 40, mostInt - 1, mostInt} {
		for _, key := range append(endKeys(), 7, 4095, 4096) {
			d := begun(t)
			d.ask(tx, key, read, "granted")
			d.end(tx, "")
			d.holds(key, "", "")
			d.ask(tx, key, write, "granted")
			d.dead(false, tx)
		}
	}
}

// P13.1: a transaction may hold all keys there are, some to read, some to write; they are all another one's then, who waits for none of them any more.
func TestAskAllKeys(t *testing.T) {
	table := made(t)
	for key := range api.MaxKeys {
		if x, err := table.Ask(5, key, key%2 > 0); turn(x) != "granted" || err != api.OK {
			t.Fatal(key, x, err)
		}
	}
	for key := range api.MaxKeys {
		if l := table.Holds(key); !slices.Equal(l, []api.Hold{{Tx: 5, Write: key%2 > 0}}) {
			t.Fatal(key, l)
		}
	}
	if x, err := table.Ask(4, 1, read); turn(x) != "granted; wounded 5" || err != api.OK {
		t.Error(turn(x), err)
	}
	for key := range api.MaxKeys {
		want := ""
		if key == 1 {
			want = "4 reads"
		}
		if got := holders(table.Holds(key)); got != want {
			t.Fatal(key, got, want)
		}
	}
}

// P13.1: who holds a key as he asks for it, or to write, has it; nothing changes, whoever waits for it.
func TestAskAgain(t *testing.T) {
	for _, beside := range []func(d *pair){
		func(*pair) {},
		func(d *pair) { d.ask(9, 7, write, "waits") },
		func(d *pair) { d.ask(9, 7, write, "waits"); d.ask(8, 7, write, "waits") },
	} {
		d := begun(t)
		d.ask(5, 7, read, "granted")
		beside(d)
		d.ask(5, 7, read, "granted")
		d.holds(7, "5 reads", holders(d.t.Waits(7)))
		d = begun(t)
		d.ask(5, 7, write, "granted")
		beside(d)
		d.ask(5, 7, write, "granted")
		d.ask(5, 7, read, "granted")
		d.holds(7, "5 writes", holders(d.t.Waits(7)))
	}
}

// P13.1: an elder one that waits to write doesn't keep a key from who holds it to read already.
func TestAskAgainBehindElder(t *testing.T) {
	d := begun(t)
	d.ask(1, 7, read, "granted")
	d.ask(5, 7, read, "granted")
	d.ask(3, 7, write, "waits; wounded 5")
	d.ask(1, 7, read, "granted")
	d.ask(2, 7, read, "granted")
	d.ask(2, 7, read, "granted")
	d.holds(7, "1 reads, 2 reads", "3 writes")
}

// P13.1: who holds a key to read, alone, and asks to write, has it so.
func TestAskMoreAlone(t *testing.T) {
	d := begun(t)
	d.ask(5, 7, read, "granted")
	d.ask(5, 7, write, "granted")
	d.holds(7, "5 writes", "")
	d.ask(5, 7, read, "granted")
	d.holds(7, "5 writes", "")
	d.end(5, "")
	d.holds(7, "", "")
}

// P13.1: beside others: the younger ones are wounded; for the elder ones it waits, and holds the key to read while it does.
func TestAskMoreBesideOthers(t *testing.T) {
	d := begun(t)
	for _, tx := range []int{5, 6, 7} {
		d.ask(tx, 7, read, "granted")
	}
	d.ask(5, 7, write, "granted; wounded 6 7")
	d.holds(7, "5 writes", "")

	d = begun(t)
	for _, tx := range []int{5, 3, 4} {
		d.ask(tx, 7, read, "granted")
	}
	d.ask(5, 7, write, "waits")
	d.holds(7, "3 reads, 4 reads, 5 reads", "5 writes")
	d.noAsk(5, 7, read, api.ErrLocksWaits)
	d.end(3, "")
	d.end(4, "5 7")
	d.holds(7, "5 writes", "")

	d = begun(t)
	for _, tx := range []int{6, 9, 4, 5, 7} {
		d.ask(tx, 7, read, "granted")
	}
	d.ask(6, 7, write, "waits; wounded 7 9")
	d.holds(7, "4 reads, 5 reads, 6 reads", "6 writes")
	d.ask(4, 7, write, "granted; wounded 5 6")
	d.holds(7, "4 writes", "")
	d.dead(true, 5, 6, 7, 9)
}

// P13.1: one that holds a key to read and waits to write keeps it from younger ones that ask, as one that waits, and from elder ones not at all.
func TestAskBesideOneThatWaitsForMore(t *testing.T) {
	d := begun(t)
	d.ask(1, 7, read, "granted")
	d.ask(5, 7, read, "granted")
	d.ask(5, 7, write, "waits")
	d.ask(3, 7, read, "granted")
	d.ask(6, 7, read, "waits")
	d.holds(7, "1 reads, 3 reads, 5 reads", "5 writes, 6 reads")
	d.ask(2, 7, write, "waits; wounded 3 5")
	d.holds(7, "1 reads", "2 writes, 6 reads")
	d.end(2, "6 7")
}

// P13.1: to read what others read goes together, in whatever order they asked.
func TestAskReadBesideReaders(t *testing.T) {
	d := begun(t)
	for _, tx := range []int{5, 3, 9, 4, 1, mostInt, 6} {
		d.ask(tx, 7, read, "granted")
	}
	d.holds(7, "1 reads, 3 reads, 4 reads, 5 reads, 6 reads, 9 reads, 9223372036854775807 reads", "")
}

// P13.1: to read what an elder one writes: it waits; what a younger one writes: that is wounded.
func TestAskReadBesideWriter(t *testing.T) {
	d := begun(t)
	d.ask(5, 7, write, "granted")
	d.ask(6, 7, read, "waits")
	d.holds(7, "5 writes", "6 reads")
	d.ask(4, 7, read, "granted; wounded 5; woken 6 7")
	d.holds(7, "4 reads, 6 reads", "")
	d.dead(true, 5)
}

// P13.1: to write what others hold: the elder ones are waited for, the younger ones wounded, whatever they do.
func TestAskWriteBesideOthers(t *testing.T) {
	for _, write5 := range []bool{read, write} {
		d := begun(t)
		d.ask(5, 7, write5, "granted")
		d.ask(6, 7, write, "waits")
		d.ask(4, 7, write, "granted; wounded 5")
		d.holds(7, "4 writes", "6 writes")
	}
	d := begun(t)
	for _, tx := range []int{2, 9, 5, 7, 3} {
		d.ask(tx, 7, read, "granted")
	}
	d.ask(4, 7, write, "waits; wounded 5 7 9")
	d.holds(7, "2 reads, 3 reads", "4 writes")
	d.dead(false, 2, 3, 4)
	d.dead(true, 5, 7, 9)
	d.ask(1, 7, write, "granted; wounded 2 3")
	d.holds(7, "1 writes", "4 writes")
	d.end(1, "4 7")
}

// P13.1: the eldest and the youngest there may be.
func TestAskEldestAndYoungest(t *testing.T) {
	d := begun(t)
	d.ask(mostInt, 7, write, "granted")
	d.ask(mostInt-1, 7, write, "granted; wounded 9223372036854775807")
	d.ask(1, 7, read, "granted; wounded 9223372036854775806")
	d.end(mostInt, "")
	d.ask(mostInt, 7, write, "waits")
	d.ask(2, 7, read, "granted")
	d.end(1, "")
	d.end(2, "9223372036854775807 7")
}

// P13.1: a key that elder ones wait for: who doesn't go together with one of them waits behind it, though he would with those that hold it.
func TestAskBehindElderOnes(t *testing.T) {
	d := begun(t)
	d.ask(1, 7, read, "granted")
	d.ask(5, 7, write, "waits")
	d.ask(6, 7, read, "waits")
	d.ask(8, 7, write, "waits")
	d.ask(7, 7, read, "waits")
	d.holds(7, "1 reads", "5 writes, 6 reads, 7 reads, 8 writes")
	d.end(5, "6 7, 7 7")
	d.end(1, "")
	d.end(6, "")
	d.end(7, "8 7")
}

// P13.1: a key that younger ones wait for: who goes together with those that hold it has it ahead of them.
func TestAskAheadOfYoungerOnes(t *testing.T) {
	d := begun(t)
	d.ask(2, 7, read, "granted")
	d.ask(8, 7, write, "waits")
	d.ask(9, 7, read, "waits")
	d.ask(5, 7, read, "granted")
	d.ask(1, 7, write, "granted; wounded 2 5")
	d.holds(7, "1 writes", "8 writes, 9 reads")
	d.end(1, "8 7")
	d.holds(7, "8 writes", "9 reads")
}

// P13.1: elder ones and younger ones that wait: it stands between them.
func TestAskBetween(t *testing.T) {
	d := begun(t)
	d.ask(1, 7, write, "granted")
	d.ask(9, 7, read, "waits")
	d.ask(3, 7, read, "waits")
	d.ask(6, 7, write, "waits")
	d.ask(4, 7, read, "waits")
	d.ask(8, 7, read, "waits")
	d.holds(7, "1 writes", "3 reads, 4 reads, 6 writes, 8 reads, 9 reads")
	d.end(1, "3 7, 4 7")
	d.end(3, "")
	d.end(4, "6 7")
	d.end(6, "8 7, 9 7")
}

// P13.1: the wounded one loses all that it holds: those that wait for these keys are given them, by keys, then by transactions.
func TestAskWakesOnManyKeys(t *testing.T) {
	d := begun(t)
	for _, key := range []int{8191, 3, 100, 0, 7} {
		d.ask(5, key, write, "granted")
	}
	d.ask(9, 3, read, "waits")
	d.ask(7, 3, read, "waits")
	d.ask(8, 8191, write, "waits")
	d.ask(12, 0, write, "waits")
	d.ask(11, 0, write, "waits")
	d.ask(6, 7, read, "waits")
	d.ask(10, 7, read, "waits")
	d.ask(4, 7, read, "granted; wounded 5; woken 11 0, 7 3, 9 3, 6 7, 10 7, 8 8191")
	d.holds(0, "11 writes", "12 writes")
	d.holds(3, "7 reads, 9 reads", "")
	d.holds(7, "4 reads, 6 reads, 10 reads", "")
	d.holds(100, "", "")
	d.holds(8191, "8 writes", "")
}

// P13.1: several wounded ones lose keys at once, some of them the same.
func TestAskWoundsSeveral(t *testing.T) {
	d := begun(t)
	for _, tx := range []int{20, 23, 21, 22} {
		d.ask(tx, 7, read, "granted")
		d.ask(tx, 9, read, "granted")
	}
	d.ask(20, 50, write, "granted")
	d.ask(21, 40, write, "granted")
	d.ask(22, 60, write, "granted")
	d.ask(30, 60, write, "waits")
	d.ask(31, 50, read, "waits")
	d.ask(32, 40, read, "waits")
	d.ask(33, 40, read, "waits")
	d.ask(34, 9, write, "waits")
	d.ask(35, 9, write, "waits")
	d.ask(36, 7, read, "granted")
	d.ask(19, 7, write, "granted; wounded 20 21 22 23 36; woken 34 9, 32 40, 33 40, 31 50, 30 60")
	d.holds(7, "19 writes", "")
	d.holds(9, "34 writes", "35 writes")
}

// P13.1: the wounded one waits for nothing any more, so that those that waited behind it alone are given the key.
func TestAskWoundsOneThatWaits(t *testing.T) {
	d := begun(t)
	d.ask(1, 3, read, "granted")
	d.ask(5, 7, write, "granted")
	d.ask(5, 3, write, "waits")
	d.ask(6, 3, read, "waits")
	d.ask(8, 3, read, "waits")
	d.ask(7, 3, write, "waits")
	d.ask(4, 7, write, "granted; wounded 5; woken 6 3")
	d.holds(3, "1 reads, 6 reads", "7 writes, 8 reads")
	d.dead(true, 5)
}

// P13.1: so too where it waits to write what it holds to read, and where that is the key that is asked for.
func TestAskWoundsOneThatWaitsForMore(t *testing.T) {
	d := begun(t)
	d.ask(1, 3, read, "granted")
	d.ask(5, 3, read, "granted")
	d.ask(5, 3, write, "waits")
	d.ask(6, 3, read, "waits")
	d.ask(4, 3, write, "waits; wounded 5")
	d.holds(3, "1 reads", "4 writes, 6 reads")
	d.end(4, "6 3")

	d = begun(t)
	d.ask(1, 3, read, "granted")
	d.ask(5, 7, read, "granted")
	d.ask(5, 3, read, "granted")
	d.ask(5, 3, write, "waits")
	d.ask(6, 3, read, "waits")
	d.ask(2, 7, write, "granted; wounded 5; woken 6 3")
	d.holds(3, "1 reads, 6 reads", "")
}

// P13.1: those that wait for a key are not wounded by one that asks for it, nor those that hold others.
func TestAskWoundsHoldersAlone(t *testing.T) {
	d := begun(t)
	d.ask(3, 7, write, "granted")
	d.ask(8, 7, write, "waits")
	d.ask(9, 6, write, "granted")
	d.ask(9, 7, read, "waits")
	d.ask(7, 8, write, "granted")
	d.ask(2, 7, write, "granted; wounded 3")
	d.dead(false, 2, 7, 8, 9)
	d.holds(7, "2 writes", "8 writes, 9 reads")
	d.holds(6, "9 writes", "")
}

// P13.1: who waits may be given a key that another one's wounds freed, while he who asked waits still.
func TestAskWaitsAndWakes(t *testing.T) {
	d := begun(t)
	d.ask(1, 7, read, "granted")
	d.ask(5, 7, read, "granted")
	d.ask(5, 2, write, "granted")
	d.ask(9, 2, read, "waits")
	d.ask(3, 7, write, "waits; wounded 5; woken 9 2")
	d.holds(7, "1 reads", "3 writes")
	d.holds(2, "9 reads", "")
}

// P13.1: who waits may hold keys still, and is woken when they don't matter.
func TestAskHoldsWhileWaiting(t *testing.T) {
	d := begun(t)
	d.ask(1, 7, write, "granted")
	d.ask(5, 3, write, "granted")
	d.ask(5, 7, read, "waits")
	d.holds(3, "5 writes", "")
	d.ask(6, 3, read, "waits")
	d.end(1, "5 7")
	d.ask(5, 8, read, "granted")
	d.end(5, "6 3")
}

// many is a table with a key that one holds to write and so many wait for, as told of each by its place.
func many(t *testing.T, n int, isWrite func(int) bool) *Table {
	table := made(t)
	if x, err := table.Ask(1, 7, write); !x.Granted || err != api.OK {
		t.Fatal(x, err)
	}
	for k := range n {
		tx := 2 + k*37%n // not in their order: 37 and n have nothing in common
		if x, err := table.Ask(tx, 7, isWrite(tx)); !isBare(x) || err != api.OK {
			t.Fatal(tx, turn(x), err)
		}
	}
	return table
}

// P13.1, P13.2: one that many wait for to read: all are given it at once.
func TestManyReaders(t *testing.T) {
	table := many(t, 1000, func(int) bool { return read })
	l, err := table.End(1)
	if len(l) != 1000 || err != api.OK {
		t.Fatal(len(l), err)
	}
	for k, g := range l {
		if g != (api.Grant{Tx: 2 + k, Key: 7}) {
			t.Fatal(k, g)
		}
	}
	x, err := table.Ask(500, 7, write)
	if x.Granted || len(x.Wounded) != 501 || !slices.IsSorted(x.Wounded) || x.Wounded[0] != 501 || len(x.Woken) != 0 || err != api.OK {
		t.Error(turn(x), err)
	}
}

// P13.1, P13.2: to write: one by one, the eldest first.
func TestManyWriters(t *testing.T) {
	table := many(t, 1000, func(int) bool { return write })
	for tx := 1; tx < 1001; tx++ {
		if l, err := table.End(tx); !slices.Equal(l, []api.Grant{{Tx: tx + 1, Key: 7}}) || err != api.OK {
			t.Fatal(tx, l, err)
		}
	}
	if l, err := table.End(1001); len(l) != 0 || err != api.OK {
		t.Error(l, err)
	}
}

// P13.1, P13.2: by turns: some that read, one that writes, some that read.
func TestManyByTurns(t *testing.T) {
	table := many(t, 1000, func(tx int) bool { return tx%10 == 0 })
	for tx := 1; tx < 1001; tx++ {
		var want []api.Grant
		if next := tx + 1; next%10 == 0 {
			want = []api.Grant{{Tx: next, Key: 7}}
		} else if tx%10 == 0 || tx == 1 {
			for ; next%10 != 0 && next < 1002; next++ {
				want = append(want, api.Grant{Tx: next, Key: 7})
			}
		}
		if l, err := table.End(tx); !slices.Equal(l, want) || err != api.OK {
			t.Fatal(tx, l, err, want)
		}
	}
}
