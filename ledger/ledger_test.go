package ledger

import (
	"math"
	"slices"
	"testing"

	"moiety/api"
)

const (
	most     = int64(api.MaxAmount)
	low      = int64(math.MinInt64)
	high     = int64(math.MaxInt64)
	top      = api.MaxAccounts - 1
	leastInt = math.MinInt
	mostInt  = math.MaxInt
	bit      = math.SmallestNonzeroFloat64
)

// noRates is floats that are no rates: those next to rates and the ends among them, and what is no number by several bits.
func noRates() []float64 {
	return []float64{
		math.NaN(), -math.NaN(), math.Float64frombits(0x7ff0000000000001), math.Float64frombits(0xfff0000000000001), math.Float64frombits(1<<64 - 1),
		math.Inf(1), math.Inf(-1), -bit, -0.01, -1, -2, -math.MaxFloat64, math.Nextafter(1, 2), 1.01, 2, math.MaxFloat64,
	}
}

// someRates is rates: both noughts, the ends and those next to them among them.
func someRates() []float64 {
	return []float64{0, math.Copysign(0, -1), bit, 1e-300, 1e-15, 1e-9, 0.001, 0.01, 0.1, 0.25, 0.5, 0.75, 0.999, math.Nextafter(1, 0), 1}
}

// noAccounts is numbers that are no accounts: those next to accounts, keys of what is paid, and the ends among them.
func noAccounts() []int {
	return []int{-1, -2, -4095, -4096, 4096, 4097, 4098, 8191, 8192, 1 << 32, 1<<32 + 1, -1 << 32, leastInt, leastInt + 1, mostInt - 1, mostInt}
}

// noAmounts is numbers that are no amounts: those next to amounts and the ends among them.
func noAmounts() []int64 {
	return []int64{-1, -2, -100, -most, most + 1, most + 2, 2 * most, 1 << 62, -1 << 62, low, low + 1, high - 1, high}
}

// of is entries, each by its key and its V.
func of(l ...int64) []api.Entry {
	var all []api.Entry
	for k := 0; k < len(l); k += 2 {
		all = append(all, api.Entry{Key: int(l[k]), V: l[k+1]})
	}
	return all
}

// made is a new book.
func made(t *testing.T, rate float64) *Book {
	t.Helper()
	b, err := New(rate)
	if b == nil || err != api.OK {
		t.Fatal("no book:", rate, err)
	}
	return b
}

// pair is a book, and a plain one that is told the same.
type pair struct {
	*testing.T
	b *Book
	p *plain
}

// begun is a new book, which stands as a plain one, with accounts that are open.
func begun(t *testing.T, rate float64, l ...int64) *pair {
	t.Helper()
	d := &pair{t, made(t, rate), newPlain(rate)}
	d.stands()
	for _, e := range of(l...) {
		d.open(e.Key, e.V, api.OK)
	}
	return d
}

// someAccounts is accounts that a book is asked for: those that are open, those next to them, those at both ends, and numbers that are none.
func (d *pair) someAccounts() []int {
	l := append(noAccounts(), 0, 1, 2, 2048, top-1, top)
	for _, e := range d.p.opened {
		l = append(l, e.Key-1, e.Key, e.Key+1, e.Key+4096)
	}
	slices.Sort(l)
	return slices.Compact(l)
}

// stands holds all that the book tells against what the plain one does.
func (d *pair) stands() {
	d.Helper()
	d.asPlain(d.b)
}

// asPlain is the same of any book.
func (d *pair) asPlain(b *Book) {
	d.Helper()
	for _, account := range d.someAccounts() {
		got, ok := b.Has(account)
		if want, isOpen := d.p.Has(account); got != want || ok != isOpen {
			d.Errorf("Has(%d) = %d, %v, want %d, %v", account, got, ok, want, isOpen)
		}
		if got, want := b.Paid(account), d.p.Paid(account); got != want {
			d.Errorf("Paid(%d) = %d, want %d", account, got, want)
		}
	}
	if got, want := b.List(), d.p.List(); !slices.Equal(got, want) {
		d.Errorf("List() = %v, want %v", got, want)
	}
}

// open opens an account, and holds the answer against what it is to be, by the test and by the plain book, and then how the book stands.
func (d *pair) open(account int, n int64, want api.Errno) {
	d.Helper()
	got, plain := d.b.Open(account, n), d.p.Open(account, n)
	if got != want || plain != want {
		d.Errorf("Open(%d, %d) = %d, want %d (by the words: %d)", account, n, got, want, plain)
	}
	d.stands()
}

// move does the same with a move that is done.
func (d *pair) move(from, to int, n, charge int64) {
	d.Helper()
	d.moves(from, to, n, charge, api.OK)
}

// noMove does the same with a move that is refused.
func (d *pair) noMove(from, to int, n int64, want api.Errno) {
	d.Helper()
	d.moves(from, to, n, 0, want)
}

func (d *pair) moves(from, to int, n, charge int64, want api.Errno) {
	d.Helper()
	got, err := d.b.Move(from, to, n)
	plain, plainErr := d.p.Move(from, to, n)
	if got != charge || err != want || plain != charge || plainErr != want {
		d.Errorf("Move(%d, %d, %d) = %d, %d, want %d, %d (by the words: %d, %d)", from, to, n, got, err, charge, want, plain, plainErr)
	}
	d.stands()
}

// has holds what an account has, and has paid, against what it is to be.
func (d *pair) has(account int, n, paid int64) {
	d.Helper()
	if got, ok := d.b.Has(account); got != n || !ok {
		d.Errorf("Has(%d) = %d, %v, want %d", account, got, ok, n)
	}
	if got := d.b.Paid(account); got != paid {
		d.Errorf("Paid(%d) = %d, want %d", account, got, paid)
	}
}

// none asks for an account that isn't open.
func (d *pair) none(account int) {
	d.Helper()
	if got, ok := d.b.Has(account); got != 0 || ok {
		d.Errorf("Has(%d) = %d, %v", account, got, ok)
	}
	if got := d.b.Paid(account); got != 0 {
		d.Errorf("Paid(%d) = %d", account, got)
	}
}

// list holds the whole list against what it is to be.
func (d *pair) list(want ...int64) {
	d.Helper()
	if got := d.b.List(); !slices.Equal(got, of(want...)) {
		d.Errorf("List() = %v, want %v", got, of(want...))
	}
}

// P14.1 to P14.3: the chapter's examples.
func TestExamples(t *testing.T) {
	d := begun(t, 0.01)
	d.open(1, 1000, api.OK)
	d.open(2, 0, api.OK)
	d.move(1, 2, 200, 2)
	d.has(1, 798, 2)
	d.list(1, 798, 2, 200, 4097, 2)
	d.noMove(2, 1, 200, api.ErrLedgerShort)
	d.noMove(1, 3, 5, api.ErrLedgerTo)
	d.noMove(3, 3, 0, api.ErrLedgerAmount)
}

// P14.1: a book is of a rate, and of nothing that is none; at first no account is open.
func TestNew(t *testing.T) {
	for _, rate := range someRates() {
		d := begun(t, rate)
		d.list()
		for account := -2; account <= 4098; account++ {
			d.none(account)
		}
	}
	for _, rate := range noRates() {
		if b, err := New(rate); b != nil || err != api.ErrLedgerRate {
			t.Errorf("New(%v) = %v, %d", rate, b, err)
		}
	}
}

// P14.1: an account that is opened has what it is opened with, from nothing to the greatest amount, and has paid nothing; no other one is open then.
func TestOpen(t *testing.T) {
	for _, account := range []int{0, 1, 2, 2047, 4094, 4095} {
		for _, n := range []int64{0, 1, 2, 1000, most - 1, most} {
			d := begun(t, 0.01)
			d.open(account, n, api.OK)
			d.has(account, n, 0)
			d.list(int64(account), n)
			for other := range api.MaxAccounts {
				if other != account {
					d.none(other)
				}
			}
		}
	}
}

// P14.1: what is no account, or no amount, opens nothing.
func TestOpenRefused(t *testing.T) {
	d := begun(t, 0.01)
	for _, account := range noAccounts() {
		d.open(account, 5, api.ErrLedgerAccount)
		d.none(account)
	}
	for _, n := range noAmounts() {
		d.open(5, n, api.ErrLedgerAmount)
		d.none(5)
	}
	d.list()
	d.open(5, 1, api.OK)
}

// P14.1: an account is opened once: it keeps what it had, whatever it is opened with then, also if that was nothing.
func TestOpenTwice(t *testing.T) {
	for _, first := range []int64{0, 1, most} {
		d := begun(t, 0.5)
		d.open(7, first, api.OK)
		for _, n := range append(noAmounts(), 0, 1, 5, most) {
			d.open(7, n, api.ErrLedgerThere)
			d.has(7, first, 0)
		}
	}
	d := begun(t, 0.5, 7, 3, 8, 0)
	d.move(7, 8, 2, 1)
	d.open(7, 100, api.ErrLedgerThere)
	d.open(8, 100, api.ErrLedgerThere)
	d.list(7, 0, 8, 2, 4103, 1)
}

// P14.1: all accounts may be open at once, each with the greatest amount.
func TestAllOpen(t *testing.T) {
	b := made(t, 0.01)
	for account := top; account >= 0; account-- {
		if err := b.Open(account, most); err != api.OK {
			t.Fatal(account, err)
		}
	}
	l := b.List()
	if len(l) != api.MaxAccounts {
		t.Fatal(len(l))
	}
	for k, e := range l {
		if e != (api.Entry{Key: k, V: most}) || b.Open(k, 0) != api.ErrLedgerThere {
			t.Error(k, e)
		}
	}
	for _, account := range noAccounts() {
		if err := b.Open(account, 0); err != api.ErrLedgerAccount {
			t.Error(account, err)
		}
	}
}

// P14.3: the list is by rising keys, however accounts were opened: first what all have, noughts too, then what those that paid have paid.
func TestList(t *testing.T) {
	d := begun(t, 0.1, 4095, 100, 0, 0, 9, 100, 3, 100, 1000, 0, 4094, 100)
	d.list(0, 0, 3, 100, 9, 100, 1000, 0, 4094, 100, 4095, 100)
	d.move(4095, 0, 10, 1)
	d.move(3, 1000, 90, 9)
	d.move(9, 3, 9, 0)
	d.list(0, 10, 3, 10, 9, 91, 1000, 90, 4094, 100, 4095, 89, 4099, 9, 8191, 1)
}
