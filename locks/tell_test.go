package locks

import (
	"testing"

	"moiety/api"
)

// P13.3: of a number that is no key nobody holds or waits, whatever goes on.
func TestTellsOfNoKey(t *testing.T) {
	d := begun(t)
	for _, key := range endKeys() {
		d.ask(3, key, write, "granted")
	}
	d.ask(5, 0, read, "waits")
	d.ask(4, topKey, read, "waits")
	for _, key := range noKeys() {
		d.noAsk(1, key, write, api.ErrLocksKey)
		d.holds(key, "", "")
	}
	d.holds(0, "3 writes", "5 reads")
	d.holds(topKey, "3 writes", "4 reads")
}

// P13.3: of a key that nobody asked for, and of one that all that did let go.
func TestTellsOfFreeKeys(t *testing.T) {
	d := begun(t)
	d.ask(3, 7, write, "granted")
	for _, key := range []int{0, 6, 8, topKey} {
		d.holds(key, "", "")
	}
	d.ask(5, 8, read, "granted")
	d.ask(5, 7, read, "waits")
	d.end(3, "5 7")
	d.end(5, "")
	d.holds(7, "", "")
	d.holds(8, "", "")
}

// P13.3: those that hold and those that wait are told by transactions, however they asked, each with what it holds or waits for.
func TestTellsByTransactions(t *testing.T) {
	d := begun(t)
	for _, tx := range []int{4, 2, 1 << 40, 6, 3} {
		d.ask(tx, 7, read, "granted")
	}
	d.ask(4, 7, write, "waits; wounded 6 1099511627776")
	for _, tx := range []int{9, 1 << 33, 5, 7} {
		d.ask(tx, 7, tx == 9, "waits")
	}
	d.holds(7, "2 reads, 3 reads, 4 reads", "4 writes, 5 reads, 7 reads, 9 writes, 8589934592 reads")
	d.ask(1, 7, read, "granted")
	d.holds(7, "1 reads, 2 reads, 3 reads, 4 reads", "4 writes, 5 reads, 7 reads, 9 writes, 8589934592 reads")
}

// P13.3: who is wounded is dead until it ends: when it asks again, when others come and go, when he who wounded it ends.
func TestTellsWhoIsDead(t *testing.T) {
	d := begun(t)
	d.dead(false, -1, 0, 1, 5, mostInt)
	d.ask(5, 7, write, "granted")
	d.dead(false, 5)
	d.ask(2, 7, write, "granted; wounded 5")
	d.dead(true, 5)
	d.dead(false, 2)
	d.noAsk(5, 7, write, api.ErrLocksDead)
	d.noAsk(5, 8, read, api.ErrLocksDead)
	d.noAsk(5, 8192, read, api.ErrLocksKey)
	d.dead(true, 5)
	d.end(2, "")
	d.dead(true, 5)
	d.noAsk(5, 7, write, api.ErrLocksDead)
	d.ask(6, 7, write, "granted")
	d.end(6, "")
	d.dead(true, 5)
	d.end(5, "")
	d.dead(false, 5)
	d.ask(5, 7, write, "granted")
	d.dead(false, 5)
	d.ask(3, 7, read, "granted; wounded 5")
	d.dead(true, 5)
	d.end(5, "")
	d.dead(false, 5)
}

// P13.3: who waits, or ended while it waited, isn't dead.
func TestTellsWhoIsNotDead(t *testing.T) {
	d := begun(t)
	d.ask(1, 7, write, "granted")
	d.ask(5, 7, write, "waits")
	d.dead(false, 1, 5)
	d.end(5, "")
	d.dead(false, 1, 5)
}
