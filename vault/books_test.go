package vault

import (
	"math"
	"math/rand/v2"
	"slices"
	"testing"

	"moiety/api"
	"moiety/ledger"
)

// booked is a vault, and a book by its rate, of which the same accounts are opened, and in which the same amounts move, one behind the other; and what the vault told behind each of these.
type booked struct {
	*testing.T
	v     *Vault
	b     *ledger.Book
	id    int
	told  map[int64][]api.Entry
	kinds kindsOfMoves
}

// kindsOfMoves is how many moves were charged, and how many weren't, of accounts that never were ahead of that, and of those that were.
type kindsOfMoves struct{ charged, never, notNow int }

// count counts a move by its charge, and by what its payer has paid ahead of it.
func (k *kindsOfMoves) count(charge, paid int64) {
	switch {
	case charge > 0:
		k.charged++
	case paid == 0:
		k.never++
	default:
		k.notNow++
	}
}

// add adds what was counted elsewhere.
func (k *kindsOfMoves) add(l kindsOfMoves) {
	k.charged, k.never, k.notNow = k.charged+l.charged, k.never+l.never, k.notNow+l.notNow
}

// opensBoth is a vault and a book by a rate, whose accounts from first on are opened with some amounts.
func opensBoth(t *testing.T, rate float64, first int, l ...int64) *booked {
	t.Helper()
	b, err := ledger.New(rate)
	if err != api.OK {
		t.Fatal(rate, err)
	}
	x := &booked{T: t, v: made(t, rate), b: b, told: map[int64][]api.Entry{}}
	for k, n := range l {
		if a, b := x.v.Open(x.v.Top()+1, first+k, n), x.b.Open(first+k, n); a != api.OK || b != api.OK {
			t.Fatal(k, n, a, b)
		}
		x.same()
	}
	return x
}

// same closes the vault up to its top, and holds what it tells of that against what the book lists.
func (x *booked) same() {
	x.Helper()
	at := x.v.Top()
	if err := x.v.Close(at); err != api.OK {
		x.Fatal(at, err)
	}
	got, err := x.v.Snap(at)
	if want := x.b.List(); !slices.Equal(got, want) || err != api.OK {
		x.Errorf("Snap(%d) = %v, %d, the book's List: %v", at, got, err, want)
	}
	x.told[at] = slices.Clone(got)
}

// move moves an amount in both; in the vault both parts are held, and committed at one stamp. Whether the book does it.
func (x *booked) move(from, to int, n int64) bool {
	x.Helper()
	top, paid := x.v.Top(), x.b.Paid(from)
	charge, err := x.b.Move(from, to, n)
	x.id += 2
	payer, payee := pays(x.id-1, from, n), gets(x.id, to, n)
	a, b := x.v.Hold(top+1, payer), x.v.Hold(top+2, payee)
	if (a == api.OK && b == api.OK) != (err == api.OK) || (a == api.ErrVaultShort) != (err == api.ErrLedgerShort) {
		x.Fatalf("%d from %d to %d: the vault answers %d, %d, the book %d", n, from, to, a, b, err)
	}
	if err == api.OK {
		x.kinds.count(charge, paid)
		a, b = x.v.Commit(top+2, payee.ID), x.v.Commit(top+2, payer.ID)
	} else {
		a, b = x.v.Drop(payer.ID), x.v.Drop(payee.ID)
	}
	if a != api.OK || b != api.OK {
		x.Fatal(from, to, n, a, b)
	}
	x.same()
	return err == api.OK
}

// ends holds what the vault tells of all times, now, against what the book listed then; and, once it is pruned, what it tells of the last one.
func (x *booked) ends() {
	x.Helper()
	for at, want := range x.told {
		if got, err := x.v.Snap(at); !slices.Equal(got, want) || err != api.OK {
			x.Errorf("at the end Snap(%d) = %v, %d, want %v", at, got, err, want)
		}
	}
	if err := x.v.Prune(x.v.Top()); err != api.OK {
		x.Error(err)
	}
	x.same()
}

// P15.6: where nothing is charged, an account that never was ahead of that has no entry of what it has paid, by whichever rate; one that was keeps what it has.
func TestNoChargeLeavesNoEntry(t *testing.T) {
	for _, k := range []struct {
		rate  float64
		n     int64
		want  []int64 // behind each of three moves of n
		kinds kindsOfMoves
	}{
		{0, 1, []int64{0, 0, 0}, kindsOfMoves{never: 3}},
		{0, most / 4, []int64{0, 0, 0}, kindsOfMoves{never: 3}},
		{math.Copysign(0, -1), most / 4, []int64{0, 0, 0}, kindsOfMoves{never: 3}},
		{bit, most / 4, []int64{0, 0, 0}, kindsOfMoves{never: 3}},
		{0.01, 1, []int64{0, 0, 0}, kindsOfMoves{never: 3}},
		{0.01, 99, []int64{0, 0, 0}, kindsOfMoves{never: 3}},
		{0.01, 100, []int64{1, 2, 3}, kindsOfMoves{charged: 3}},
		{0.5, 1, []int64{0, 0, 0}, kindsOfMoves{never: 3}},
		{0.5, 2, []int64{1, 2, 3}, kindsOfMoves{charged: 3}},
		{math.Nextafter(1, 0), 1, []int64{0, 0, 0}, kindsOfMoves{never: 3}},
		{1, 1, []int64{1, 2, 3}, kindsOfMoves{charged: 3}},
	} {
		x := opensBoth(t, k.rate, 7, most, 0)
		for n, want := range k.want {
			if !x.move(7, 8, k.n) {
				t.Fatal(k, n)
			}
			l := x.told[x.v.Top()]
			if has := slices.ContainsFunc(l, func(e api.Entry) bool { return e.Key >= 4096 }); has != (want > 0) || has && l[2] != (api.Entry{Key: 4103, V: want}) {
				t.Errorf("%v: behind move %d: %v, want paid: %d", k, n+1, l, want)
			}
		}
		if x.kinds != k.kinds {
			t.Errorf("%v: %v", k, x.kinds)
		}
		x.ends()
	}
}

// P15.6: the entry is there from the first stamp on at which its account is charged, and stays as it is where it isn't: at no time is it there with nothing.
func TestEntryFromTheFirstCharge(t *testing.T) {
	d := having(t, 0.01, 1, 1000, 2, 1000)
	for k, n := range []int64{1, 99, 200, 1, 99, 100, 99} {
		at := int64(10 * (k + 1))
		d.hold(at, pays(2*k+1, 1, n), api.OK)
		d.hold(at+1, gets(2*k+2, 2, n), api.OK)
		d.commit(at+5, 2*k+1, api.OK)
		d.commit(at+5, 2*k+2, api.OK)
	}
	d.close(100, api.OK)
	d.snap(14, 1, 1000, 2, 1000)
	d.snap(15, 1, 999, 2, 1001)
	d.snap(25, 1, 900, 2, 1100)
	d.snap(34, 1, 900, 2, 1100)
	d.snap(35, 1, 698, 2, 1300, 4097, 2)
	d.snap(45, 1, 697, 2, 1301, 4097, 2)
	d.snap(55, 1, 598, 2, 1400, 4097, 2)
	d.snap(64, 1, 598, 2, 1400, 4097, 2)
	d.snap(65, 1, 497, 2, 1500, 4097, 3)
	d.snap(75, 1, 398, 2, 1599, 4097, 3)
	d.prune(30, api.OK)
	d.snap(30, 1, 900, 2, 1100)
	d.prune(75, api.OK)
	d.snap(75, 1, 398, 2, 1599, 4097, 3)
	d.snap(100, 1, 398, 2, 1599, 4097, 3)
}

// someMove is an amount that is charged nothing, or as little as may be, as often as not; else any that its payer may have.
func someMove(r *rand.Rand, rate float64, has int64) int64 {
	least := most
	if rate > 1/float64(most) {
		least = int64(1 / rate)
	}
	n := oneOf(r, 1, 2, least-1, least, least+1, 2*least, 1+r.Int64N(least), 1+r.Int64N(has+1), 1+r.Int64N(has+1)>>r.IntN(40), has)
	return max(1, min(most, n))
}

// P15.6: any moves, by any rates, of which some are charged, and others aren't: behind each of them, and at the end of each time, a vault tells what a book lists.
func TestSnapshotsAreABooksLists(t *testing.T) {
	r := rand.New(rand.NewPCG(15, 6))
	all, refused := kindsOfMoves{}, 0
	for round := range 150 {
		rate := someRates()[round%len(someRates())]
		first := oneOf(r, 0, 1, topmost-3)
		l := []int64{someStart(r), someStart(r), someStart(r), r.Int64N(3000)}
		x := opensBoth(t, rate, first, l...)
		for range 60 {
			from := r.IntN(len(l))
			to := (from + 1 + r.IntN(len(l)-1)) % len(l)
			has, _ := x.b.Has(first + from)
			if !x.move(first+from, first+to, someMove(r, rate, has)) {
				refused++
			}
		}
		x.ends()
		all.add(x.kinds)
	}
	if all.charged < 500 || all.never < 500 || all.notNow < 500 || refused < 500 {
		t.Error("too few", all, refused)
	}
}
