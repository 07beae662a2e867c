package locks

import (
	"fmt"
	"math"
	"slices"
	"strings"
	"testing"

	"moiety/api"
)

const (
	topKey   = api.MaxKeys - 1
	leastInt = math.MinInt
	mostInt  = math.MaxInt
	read     = false
	write    = true
)

// noTxs is numbers that are no transactions: the one next to them and the least one among them.
func noTxs() []int { return []int{0, -1, -2, -8192, -1 << 40, leastInt, leastInt + 1} }

// noKeys is numbers that are no keys: those next to keys and the ends among them.
func noKeys() []int {
	return []int{-1, -2, -8191, -8192, 8192, 8193, 16384, 1 << 40, -1 << 40, leastInt, leastInt + 1, mostInt - 1, mostInt}
}

// endKeys is the keys at both ends, and those next to them.
func endKeys() []int { return []int{0, 1, topKey - 1, topKey} }

// grants is grants as a text: each one's transaction, and its key.
func grants(l []api.Grant) string {
	var all []string
	for _, g := range l {
		all = append(all, fmt.Sprintf("%d %d", g.Tx, g.Key))
	}
	return strings.Join(all, ", ")
}

// turn is what came of an ask as a text: "granted; wounded 3 4; woken 2 7, 5 7".
func turn(x api.Turn) string {
	l := []string{"waits"}
	if x.Granted {
		l[0] = "granted"
	}
	if len(x.Wounded) > 0 {
		l = append(l, "wounded "+strings.Trim(fmt.Sprint(x.Wounded), "[]"))
	}
	if len(x.Woken) > 0 {
		l = append(l, "woken "+grants(x.Woken))
	}
	return strings.Join(l, "; ")
}

// holders is who holds or waits as a text: "2 reads, 5 writes".
func holders(l []api.Hold) string {
	var all []string
	for _, h := range l {
		what := "reads"
		if h.Write {
			what = "writes"
		}
		all = append(all, fmt.Sprint(h.Tx, " ", what))
	}
	return strings.Join(all, ", ")
}

// sameTurn is whether two turns are the same.
func sameTurn(x, y api.Turn) bool {
	return x.Granted == y.Granted && slices.Equal(x.Wounded, y.Wounded) && slices.Equal(x.Woken, y.Woken)
}

// isBare is whether a turn is all noughts.
func isBare(x api.Turn) bool { return sameTurn(x, api.Turn{}) }

// made is a new table.
func made(t *testing.T) *Table {
	t.Helper()
	table := New()
	if table == nil {
		t.Fatal("no table")
	}
	return table
}

// pair is a table, and a plain one that is told the same, and whom and what they were asked for.
type pair struct {
	*testing.T
	t         *Table
	p         *plain
	txs, keys []int
}

// begun is a new table, which stands as a plain one.
func begun(t *testing.T) *pair {
	t.Helper()
	d := &pair{T: t, t: made(t), p: newPlain()}
	d.stands()
	return d
}

// with is rising numbers, and one more, if it isn't among them.
func with(l []int, n int) []int {
	if k, there := slices.BinarySearch(l, n); !there {
		return slices.Insert(l, k, n)
	}
	return l
}

// stands holds all that the table tells, of all keys and transactions that matter, and of numbers that are none, against what the plain one does.
func (d *pair) stands() {
	d.Helper()
	for _, key := range append(append(noKeys(), endKeys()...), d.keys...) {
		for _, k := range []int{key, key + 1} {
			d.tellsAlike(k)
		}
	}
	for _, tx := range append(append(noTxs(), 1, mostInt-1, mostInt), d.txs...) {
		for _, n := range []int{tx, tx + 1} {
			if got, want := d.t.Dead(n), d.p.Dead(n); got != want {
				d.Errorf("Dead(%d) = %v, want %v", n, got, want)
			}
		}
	}
}

// tellsAlike holds what the table tells of a key against what the plain one does.
func (d *pair) tellsAlike(key int) {
	d.Helper()
	if got, want := d.t.Holds(key), d.p.Holds(key); !slices.Equal(got, want) {
		d.Errorf("Holds(%d) = %v, want %v", key, got, want)
	}
	if got, want := d.t.Waits(key), d.p.Waits(key); !slices.Equal(got, want) {
		d.Errorf("Waits(%d) = %v, want %v", key, got, want)
	}
}

// asks asks both tables for a key, and holds their answers against each other.
func (d *pair) asks(tx, key int, write bool) (api.Turn, api.Errno) {
	d.Helper()
	d.txs, d.keys = with(d.txs, tx), with(d.keys, key)
	got, err := d.t.Ask(tx, key, write)
	if want, wantErr := d.p.Ask(tx, key, write); !sameTurn(got, want) || err != wantErr {
		d.Errorf("Ask(%d, %d, %v) = %s, %d, by the words: %s, %d", tx, key, write, turn(got), err, turn(want), wantErr)
	}
	d.stands()
	return got, err
}

// ask holds what comes of an ask against what is to come of it.
func (d *pair) ask(tx, key int, write bool, want string) {
	d.Helper()
	if got, err := d.asks(tx, key, write); turn(got) != want || err != api.OK {
		d.Errorf("Ask(%d, %d, %v) = %s, %d, want %s", tx, key, write, turn(got), err, want)
	}
}

// noAsk asks for a key, and is refused.
func (d *pair) noAsk(tx, key int, write bool, want api.Errno) {
	d.Helper()
	if got, err := d.asks(tx, key, write); !isBare(got) || err != want {
		d.Errorf("Ask(%d, %d, %v) = %s, %d, want %d", tx, key, write, turn(got), err, want)
	}
}

// ends ends a transaction on both tables, and holds their answers against each other.
func (d *pair) ends(tx int) ([]api.Grant, api.Errno) {
	d.Helper()
	d.txs = with(d.txs, tx)
	got, err := d.t.End(tx)
	if want, wantErr := d.p.End(tx); !slices.Equal(got, want) || err != wantErr {
		d.Errorf("End(%d) = %s, %d, by the words: %s, %d", tx, grants(got), err, grants(want), wantErr)
	}
	d.stands()
	return got, err
}

// end holds what comes of an end against what is to come of it.
func (d *pair) end(tx int, want string) {
	d.Helper()
	if got, err := d.ends(tx); grants(got) != want || err != api.OK {
		d.Errorf("End(%d) = %s, %d, want %s", tx, grants(got), err, want)
	}
}

// holds holds who holds a key, and who waits for it, against who is to.
func (d *pair) holds(key int, held, waited string) {
	d.Helper()
	if got := holders(d.t.Holds(key)); got != held {
		d.Errorf("Holds(%d): %s, want %s", key, got, held)
	}
	if got := holders(d.t.Waits(key)); got != waited {
		d.Errorf("Waits(%d): %s, want %s", key, got, waited)
	}
}

// dead holds who is dead, of some transactions, against who is to be.
func (d *pair) dead(want bool, txs ...int) {
	d.Helper()
	for _, tx := range txs {
		if got := d.t.Dead(tx); got != want {
			d.Errorf("Dead(%d) = %v, want %v", tx, got, want)
		}
	}
}

// P13.1, P13.2: the chapter's examples.
func TestExamples(t *testing.T) {
	d := begun(t)
	d.ask(2, 7, write, "granted")
	d.ask(3, 7, read, "waits")
	d.ask(1, 7, read, "granted; wounded 2; woken 3 7")
	d.end(2, "")
	d.ask(2, 7, write, "waits; wounded 3")
	d.end(1, "2 7")
}

// P13.1: the fourth of the document's examples of the whole.
func TestExampleOfTheWhole(t *testing.T) {
	d := begun(t)
	d.ask(2, 5, write, "granted")
	d.ask(1, 5, write, "granted; wounded 2")
	d.ask(3, 5, write, "waits")
	d.holds(5, "1 writes", "3 writes")
	d.dead(true, 2)
	d.dead(false, 1, 3)
}

// P13.3: in a new table nobody holds anything, waits for anything, or is dead.
func TestNew(t *testing.T) {
	table := made(t)
	for key := -5; key < 8200; key++ {
		if len(table.Holds(key)) != 0 || len(table.Waits(key)) != 0 || table.Dead(key) {
			t.Error(key, table.Holds(key), table.Waits(key), table.Dead(key))
		}
	}
	begun(t)
}
