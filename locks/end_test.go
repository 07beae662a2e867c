package locks

import (
	"testing"

	"moiety/api"
)

// P13.2: the end of one that never asked is no error, and changes nothing.
func TestEndOfNobody(t *testing.T) {
	d := begun(t)
	for _, tx := range []int{1, 2, 7, mostInt - 1, mostInt} {
		d.end(tx, "")
	}
	d.ask(5, 7, write, "granted")
	d.ask(6, 7, read, "waits")
	for _, tx := range []int{1, 4, 7, mostInt} {
		d.end(tx, "")
	}
	d.holds(7, "5 writes", "6 reads")
}

// P13.2: the end of one that holds: all its keys are given to those that wait, by keys, then by transactions.
func TestEndOfHolder(t *testing.T) {
	d := begun(t)
	for _, key := range []int{100, 8191, 0, 7, 50} {
		d.ask(5, key, key != 50, "granted")
	}
	d.ask(9, 100, read, "waits")
	d.ask(8, 100, read, "waits")
	d.ask(6, 8191, write, "waits")
	d.ask(12, 0, write, "waits")
	d.ask(10, 7, read, "waits")
	d.ask(11, 7, write, "waits")
	d.ask(13, 50, write, "waits")
	d.end(5, "12 0, 10 7, 13 50, 8 100, 9 100, 6 8191")
	d.holds(7, "10 reads", "11 writes")
	d.end(5, "")
	d.holds(7, "10 reads", "11 writes")
}

// P13.2: the end of one that reads beside others lets a writer have the key when it is the last one, and another reader's wish for more when that is alone.
func TestEndOfReader(t *testing.T) {
	d := begun(t)
	for _, tx := range []int{1, 2, 3} {
		d.ask(tx, 7, read, "granted")
	}
	d.ask(4, 7, write, "waits")
	d.end(2, "")
	d.end(1, "")
	d.end(3, "4 7")

	d = begun(t)
	for _, tx := range []int{1, 2, 3} {
		d.ask(tx, 7, read, "granted")
	}
	d.ask(3, 7, write, "waits")
	d.ask(4, 7, write, "waits")
	d.end(1, "")
	d.end(2, "3 7")
	d.holds(7, "3 writes", "4 writes")
	d.end(3, "4 7")
	d.end(4, "")
	d.holds(7, "", "")
}

// P13.2: the end of one that waits: it waits for nothing, and those behind it may be given the key.
func TestEndOfOneThatWaits(t *testing.T) {
	d := begun(t)
	d.ask(1, 7, read, "granted")
	d.ask(5, 7, write, "waits")
	d.ask(6, 7, read, "waits")
	d.ask(8, 7, read, "waits")
	d.ask(7, 7, write, "waits")
	d.end(5, "6 7")
	d.holds(7, "1 reads, 6 reads", "7 writes, 8 reads")
	d.end(8, "")
	d.holds(7, "1 reads, 6 reads", "7 writes")
	d.ask(5, 7, read, "granted")
	d.end(7, "")
	d.holds(7, "1 reads, 5 reads, 6 reads", "")
}

// P13.2: the end of one that holds some keys and waits for another, and of one that waits to write what it holds to read.
func TestEndOfOneThatHoldsAndWaits(t *testing.T) {
	d := begun(t)
	d.ask(1, 7, write, "granted")
	d.ask(5, 3, write, "granted")
	d.ask(5, 9, read, "granted")
	d.ask(5, 7, write, "waits")
	d.ask(6, 3, read, "waits")
	d.ask(8, 9, write, "waits")
	d.ask(7, 7, read, "waits")
	d.end(5, "6 3, 8 9")
	d.holds(7, "1 writes", "7 reads")
	d.end(1, "7 7")

	d = begun(t)
	d.ask(1, 7, read, "granted")
	d.ask(5, 7, read, "granted")
	d.ask(5, 7, write, "waits")
	d.ask(6, 7, read, "waits")
	d.end(5, "6 7")
	d.holds(7, "1 reads, 6 reads", "")
}

// P13.2: the end of a dead one: it isn't dead any more, and may ask as one that never did.
func TestEndOfDead(t *testing.T) {
	d := begun(t)
	d.ask(5, 7, write, "granted")
	d.ask(4, 7, read, "granted; wounded 5")
	d.ask(6, 7, write, "waits")
	d.dead(true, 5)
	d.end(5, "")
	d.dead(false, 4, 5, 6)
	d.holds(7, "4 reads", "6 writes")
	d.ask(5, 7, read, "granted")
	d.ask(5, 8, write, "granted")
	d.end(4, "")
	d.end(5, "6 7")
}

// P13.2: one that has ended is as one that never asked: it may ask, hold, wait, be wounded and end once more.
func TestEndAndAskAgain(t *testing.T) {
	for _, end := range [][]int{{5}, {5, 5}} {
		d := begun(t)
		for range 4 {
			d.ask(5, 7, write, "granted")
			for _, tx := range end {
				d.end(tx, "")
			}
			d.holds(7, "", "")
			d.ask(3, 7, write, "granted")
			d.ask(5, 7, read, "waits")
			for _, tx := range end {
				d.end(tx, "")
			}
			d.holds(7, "3 writes", "")
			d.end(3, "")
			d.ask(5, 7, read, "granted")
			d.ask(3, 7, write, "granted; wounded 5")
			d.noAsk(5, 7, read, api.ErrLocksDead)
			for _, tx := range end {
				d.end(tx, "")
			}
			d.end(3, "")
		}
	}
}

// P13.2: the end of the least and of the greatest transaction there may be.
func TestEndOfEldestAndYoungest(t *testing.T) {
	for _, tx := range []int{1, mostInt} {
		d := begun(t)
		d.ask(tx, 0, write, "granted")
		d.ask(tx, topKey, read, "granted")
		d.end(tx, "")
		d.holds(0, "", "")
		d.holds(topKey, "", "")
	}
}

// P13.2: keys are given up to the first one that can't have it; who stays behind is given it later.
func TestEndGivesTheEldestFirst(t *testing.T) {
	d := begun(t)
	d.ask(1, 7, write, "granted")
	for _, tx := range []int{9, 6, 4, 8} {
		d.ask(tx, 7, tx == 8 || tx == 4, "waits")
	}
	d.end(1, "4 7")
	d.holds(7, "4 writes", "6 reads, 8 writes, 9 reads")
	d.end(4, "6 7")
	d.end(6, "8 7")
	d.end(8, "9 7")
	d.end(9, "")
}
