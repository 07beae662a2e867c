package ledger

import (
	"math/rand/v2"
	"slices"
	"testing"

	"moiety/api"
)

// sum is what all entries of a list come to.
func sum(l []api.Entry) int64 {
	var n int64
	for _, e := range l {
		n += e.V
	}
	return n
}

// changed is the accounts of which two lists tell otherwise, rising.
func changed(was, is []api.Entry) []int {
	var l []int
	for _, pair := range [][2][]api.Entry{{was, is}, {is, was}} {
		for _, e := range pair[0] {
			if !slices.Contains(pair[1], e) {
				l = append(l, e.Key%api.MaxAccounts)
			}
		}
	}
	slices.Sort(l)
	return slices.Compact(l)
}

// P14.4: in plays of any calls, behind each of them, what all accounts have and have paid is what they were opened with, and no account has less than nothing or more than an amount.
func TestNothingIsLost(t *testing.T) {
	r := rand.New(rand.NewPCG(14, 4))
	moved, charged := 0, int64(0)
	for round := range 150 {
		b := made(t, someRates()[round%len(someRates())])
		var opened, all int64
		for range 200 {
			k := someCall(r, b)
			x := k.ask(b)
			if k.kind == kindOpen && x.err == api.OK {
				opened += k.n
			}
			if k.kind == kindMove && x.err == api.OK {
				moved++
				all += x.n
				charged += min(x.n, 1)
			}
			l := b.List()
			if got := sum(l); got != opened {
				t.Fatalf("behind %v: %d, opened with %d: %v", k, got, opened, l)
			}
			var paid int64
			for _, e := range l {
				if e.V < 0 || e.Key < 4096 && e.V > most {
					t.Fatalf("behind %v: %v", k, e)
				}
				if e.Key >= 4096 {
					paid += e.V
				}
			}
			if paid != all {
				t.Fatalf("behind %v: paid %d, charged %d", k, paid, all)
			}
		}
	}
	if moved < 4000 || charged < 1000 {
		t.Error("too few", moved, charged)
	}
}

// P14.4, P14.3: also where as much is there as can be: all accounts are opened, with the greatest amount or nearly, and each one pays.
func TestNothingIsLostOfAll(t *testing.T) {
	b := made(t, 0.5)
	for account := range api.MaxAccounts {
		n := most
		if account == top {
			n = most - 2 // so that one of them may get something
		}
		if err := b.Open(account, n); err != api.OK {
			t.Fatal(account, err)
		}
	}
	for account := top; account >= 0; account-- { // each one to the one behind it, which has room then
		k := call{kindMove, (account + top) % api.MaxAccounts, account, 2}
		if x := k.ask(b); x.err != api.OK || x.n != 1 {
			t.Fatal(k, x)
		}
	}
	l := b.List()
	if got, want := sum(l), most*api.MaxAccounts-2; got != want {
		t.Errorf("%d, want %d", got, want)
	}
	if len(l) != api.MaxKeys {
		t.Fatal(len(l))
	}
	for k, e := range l {
		if e.Key != k || k >= 4096 && e.V != 1 {
			t.Error(k, e)
		}
	}
}

// P14.4: a move changes no account but its two: from and to, and these it does change; a call that is refused, or asks, changes none.
func TestMoveChangesItsTwo(t *testing.T) {
	r := rand.New(rand.NewPCG(14, 5))
	moved, other := 0, 0
	for round := range 300 {
		b := made(t, someRates()[round%len(someRates())])
		for range 150 {
			k, was := someCall(r, b), b.List()
			x := k.ask(b)
			var want []int
			if x.err == api.OK && k.kind == kindMove {
				want = []int{min(k.from, k.to), max(k.from, k.to)}
				moved++
			} else if x.err == api.OK && k.kind == kindOpen {
				want = []int{k.from}
				other++
			} else {
				other++
			}
			if got := changed(was, b.List()); !slices.Equal(got, want) {
				t.Fatalf("%v changed %v, want %v", k, got, want)
			}
		}
	}
	if moved < 4000 || other < 4000 {
		t.Error("too few", moved, other)
	}
}

// apart is whether two moves are of unlike accounts.
func apart(a, b call) bool {
	return a.from != b.from && a.from != b.to && a.to != b.from && a.to != b.to
}

// P14.4: two moves of unlike accounts, right or wrong, done in either order, are answered the same and leave the same book.
func TestUnlikeMovesChangePlaces(t *testing.T) {
	r := rand.New(rand.NewPCG(14, 6))
	done, half := 0, 0
	for round := range 200 {
		b := made(t, someRates()[round%len(someRates())])
		for account := range 6 {
			if err := b.Open(account, someStart(r)); err != api.OK {
				t.Fatal(err)
			}
		}
		for range 250 {
			first, second := someMove(r, b), someMove(r, b)
			if !apart(first, second) {
				continue
			}
			other := b.Copy()
			x1, x2 := first.ask(b), second.ask(b)
			y2, y1 := second.ask(other), first.ask(other)
			if !x1.like(y1) || !x2.like(y2) || !slices.Equal(b.List(), other.List()) {
				t.Fatalf("%v, %v: %v %v, and %v %v", first, second, x1, x2, y1, y2)
			}
			if x1.err == api.OK && x2.err == api.OK {
				done++
			} else if x1.err == api.OK || x2.err == api.OK {
				half++
			}
		}
	}
	if done < 1000 || half < 1000 {
		t.Error("too few", done, half)
	}
}

// someStart is what an account is opened with: anything, and as often as not nearly the greatest amount.
func someStart(r *rand.Rand) int64 {
	if r.IntN(2) == 0 {
		return most - r.Int64N(1000)
	}
	return max(0, min(most, someAmount(r)))
}

// someMove is any call of someCall's that is a move.
func someMove(r *rand.Rand, b *Book) call {
	for {
		if k := someCall(r, b); k.kind == kindMove {
			return k
		}
	}
}

// P14.4: whole plays of moves whose order is changed, but for those that have an account both, leave the same book, and each is answered the same.
func TestPlaysChangePlaces(t *testing.T) {
	r := rand.New(rand.NewPCG(14, 7))
	swapped := 0
	for round := range 100 {
		a := made(t, someRates()[round%len(someRates())])
		for account := range 7 {
			if err := a.Open(account, someStart(r)); err != api.OK {
				t.Fatal(err)
			}
		}
		b := a.Copy()
		var calls []call
		var told []said
		for range 40 {
			k := someMove(r, a)
			calls, told = append(calls, k), append(told, k.ask(a))
		}
		places := mixed(r, calls)
		for k, place := range places {
			if k != place {
				swapped++
			}
			if got := calls[place].ask(b); !got.like(told[place]) {
				t.Fatalf("%v: %v, want %v", calls[place], got, told[place])
			}
		}
		if got, want := b.List(), a.List(); !slices.Equal(got, want) {
			t.Fatalf("%v, want %v", got, want)
		}
	}
	if swapped < 2000 {
		t.Error("too few changed places:", swapped)
	}
}

// mixed is the places of moves in an order that is changed, but for those that have an account both.
func mixed(r *rand.Rand, calls []call) []int {
	places := make([]int, len(calls))
	for k := range places {
		places[k] = k
	}
	for range 4 * len(calls) * len(calls) {
		if k := r.IntN(len(places)); k > 0 && apart(calls[places[k-1]], calls[places[k]]) {
			places[k-1], places[k] = places[k], places[k-1]
		}
	}
	return places
}
