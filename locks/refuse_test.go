package locks

import (
	"testing"

	"moiety/api"
)

// P13.1: what is no transaction is refused, ahead of all else.
func TestAskOfNoTransaction(t *testing.T) {
	d := begun(t)
	d.ask(2, 7, write, "granted")
	for _, tx := range noTxs() {
		for _, key := range append(noKeys(), 0, 7, topKey) {
			d.noAsk(tx, key, read, api.ErrLocksTx)
			d.noAsk(tx, key, write, api.ErrLocksTx)
		}
	}
	d.holds(7, "2 writes", "")
}

// P13.2: nor does it end.
func TestEndOfNoTransaction(t *testing.T) {
	d := begun(t)
	d.ask(2, 7, write, "granted")
	d.ask(3, 7, write, "waits")
	for _, tx := range noTxs() {
		if l, err := d.ends(tx); len(l) != 0 || err != api.ErrLocksTx {
			t.Errorf("End(%d) = %v, %d", tx, l, err)
		}
	}
	d.holds(7, "2 writes", "3 writes")
}

// P13.1: what is no key is refused, ahead of who is dead or waits.
func TestAskOfNoKey(t *testing.T) {
	d := begun(t)
	d.ask(4, 7, write, "granted")
	d.ask(3, 7, write, "granted; wounded 4")
	d.ask(5, 7, write, "waits")
	for _, key := range noKeys() {
		for _, tx := range []int{1, 3, 4, 5, 6, mostInt} {
			d.noAsk(tx, key, read, api.ErrLocksKey)
			d.noAsk(tx, key, write, api.ErrLocksKey)
		}
	}
	d.dead(false, 1, 3, 5, 6, mostInt)
	d.holds(7, "3 writes", "5 writes")
}

// P13.1: a dead one is refused, whatever it asks for: a key that is free, that it held, that others hold or wait for.
func TestAskOfDead(t *testing.T) {
	d := begun(t)
	d.ask(4, 7, write, "granted")
	d.ask(4, 8, read, "granted")
	d.ask(9, 8, read, "granted")
	d.ask(9, 7, write, "waits")
	d.ask(3, 7, read, "granted; wounded 4")
	for _, key := range append(endKeys(), 7, 8, 9) {
		d.noAsk(4, key, read, api.ErrLocksDead)
		d.noAsk(4, key, write, api.ErrLocksDead)
	}
	d.holds(7, "3 reads", "9 writes")
	d.holds(8, "9 reads", "")
}

// P13.1: one that was wounded while it waited is dead, and waits no more.
func TestAskOfDeadThatWaited(t *testing.T) {
	d := begun(t)
	d.ask(1, 7, write, "granted")
	d.ask(4, 8, write, "granted")
	d.ask(4, 7, write, "waits")
	d.noAsk(4, 9, read, api.ErrLocksWaits)
	d.ask(3, 8, write, "granted; wounded 4")
	d.noAsk(4, 9, read, api.ErrLocksDead)
	d.end(4, "")
	d.ask(4, 9, read, "granted")
}

// P13.1: one that waits is refused, whatever it asks for: a key that is free, that it waits for, that it holds as it asks, that younger ones hold.
func TestAskOfOneThatWaits(t *testing.T) {
	d := begun(t)
	d.ask(1, 7, read, "granted")
	d.ask(5, 3, read, "granted")
	d.ask(5, 4, write, "granted")
	d.ask(6, 2, write, "granted")
	d.ask(5, 7, write, "waits")
	for _, key := range append(endKeys(), 2, 3, 4, 7) {
		d.noAsk(5, key, read, api.ErrLocksWaits)
		d.noAsk(5, key, write, api.ErrLocksWaits)
	}
	d.holds(7, "1 reads", "5 writes")
	d.dead(false, 6)
	d.end(1, "5 7")
	d.ask(5, 2, read, "granted; wounded 6")
}

// histories is what tables may have gone through.
func histories() [][]call {
	r := func(tx, key int) call { return call{tx: tx, key: key} }
	w := func(tx, key int) call { return call{tx: tx, key: key, write: true} }
	e := func(tx int) call { return call{tx: tx, end: true} }
	return [][]call{
		nil,
		{r(2, 1)},
		{w(2, 1)},
		{w(2, 1), r(3, 1)},
		{w(3, 1), w(2, 1)},
		{w(3, 1), w(2, 1), e(2)},
		{w(3, 1), w(2, 1), e(3)},
		{r(2, 1), r(3, 1), w(3, 1), r(4, 1)},
		{r(2, 1), r(4, 1), w(3, 1), w(5, 1), r(6, 1)},
		{w(2, 1), w(3, 2), w(4, 3), r(3, 1), r(4, 2), w(5, 3)},
		{w(2, 1), w(3, 2), w(4, 3), r(3, 1), r(4, 2), w(5, 3), w(1, 2)},
		{w(2, 0), r(2, 8191), r(3, 8191), w(4, 8191), w(5, 0), w(3, 8191), w(1, 8191)},
		{r(6, 1), r(6, 2), r(5, 2), w(6, 2), e(5), r(2, 1), r(3, 2)},
		{w(6, 1), r(5, 1), e(6), w(6, 1), w(4, 1), e(5), r(5, 1), r(3, 1)},
	}
}

// played is a table that went through something.
func played(t *testing.T, l []call) *Table {
	t.Helper()
	table := made(t)
	for _, c := range l {
		if got := c.to(table); got.err != api.OK {
			t.Fatal(l, c, got)
		}
	}
	return table
}

// refusable is calls of which each is refused by some table, and some by each.
func refusable() []call {
	var l []call
	for _, tx := range append(noTxs(), 1, 2, 3, 4, 5, 6, mostInt) {
		for _, key := range append(noKeys(), 0, 1, 2, 3, 8190, 8191) {
			l = append(l, call{tx: tx, key: key}, call{tx: tx, key: key, write: true})
		}
		l = append(l, call{tx: tx, end: true})
	}
	return l
}

// onward is calls by which a table goes on, whatever it went through.
func onward() []call {
	var l []call
	for k := range 60 {
		l = append(l, call{tx: 1 + k*5%7, key: []int{1, 0, 2, 8191, 3}[k%5], write: k%3 > 0}, call{tx: 1 + k*2%7, end: true})
	}
	return l
}

// P13.1, P13.2: a call that is refused leaves the table as it was: it is as one that never was asked, and goes on as that does.
func TestRefusedCallsChangeNothing(t *testing.T) {
	calls, on, errs := refusable(), onward(), map[api.Errno]int{}
	txs, keys := []int{-1, 0, 1, 2, 3, 4, 5, 6, 7, mostInt}, []int{-1, 0, 1, 2, 3, 4, 8190, 8191, 8192}
	for _, history := range histories() {
		for _, c := range calls {
			a, b := played(t, history), played(t, history)
			got := c.to(a)
			if got.err == api.OK {
				continue
			}
			errs[got.err]++
			if !got.isBare() || !standAlike(a, b, keys, txs) {
				t.Errorf("%v, then %v: %v", history, c, got)
			}
			for _, next := range on {
				if got, want := next.to(a), next.to(b); !got.like(want) {
					t.Errorf("%v, then %v, then %v: %v, want %v", history, c, next, got, want)
				}
			}
		}
	}
	for _, err := range []api.Errno{api.ErrLocksTx, api.ErrLocksKey, api.ErrLocksDead, api.ErrLocksWaits} {
		if errs[err] < 50 {
			t.Error("too few of", err, errs)
		}
	}
}

// P1: every call answers, at all arguments, and beside an error all else is nought.
func TestAllAnswer(t *testing.T) {
	numbers := append(append(noKeys(), endKeys()...), 2, 3, 4, 5, 6)
	for _, history := range histories() {
		for _, tx := range numbers {
			for _, key := range numbers {
				for _, c := range []call{{tx: tx, key: key}, {tx: tx, key: key, write: true}, {tx: tx, key: key, end: true}} {
					table := played(t, history)
					if got := c.to(table); !got.isBare() {
						t.Errorf("%v, then %v: %v", history, c, got)
					}
					table.Holds(key)
					table.Waits(key)
					table.Dead(tx)
				}
			}
		}
	}
}
