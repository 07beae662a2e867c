package vault

import (
	"testing"

	"moiety/api"
)

// some is a vault by a half with accounts and parts of any kind: 1 has 100, 2 has nothing, 3 has all but the greatest amount, 4 has that, of 5 a part is held since 20, 8 had 100 and paid 15 at 12, 9 was opened at 25, which is the top; no other one is open. The part 1 was committed at 12, 2 was dropped, 3 is held. It is closed up to 15, and pruned by 10.
func some(t *testing.T) *Vault {
	t.Helper()
	v := made(t, 0.5)
	for k, err := range []api.Errno{
		v.Open(1, 1, 100), v.Open(2, 2, 0), v.Open(3, 3, most-1), v.Open(4, 4, most), v.Open(5, 5, 100), v.Open(6, 8, 100),
		v.Hold(11, pays(1, 8, 10)), v.Commit(12, 1), v.Drop(2), v.Close(15), v.Hold(20, pays(3, 5, 10)), v.Open(25, 9, 7), v.Prune(10),
	} {
		if err != api.OK {
			t.Fatal(k, err)
		}
	}
	return v
}

// wrong is how one argument may be wrong, and which error tells it; a call's are in the order in which they are told.
type wrong struct {
	err  api.Errno
	does func(k *call)
}

// tellsFirst makes a call wrong in each choice of ways, and holds what is told against the first one of these.
func tellsFirst(t *testing.T, right call, ways ...wrong) {
	t.Helper()
	v := some(t)
	for chosen := 1; chosen < 1<<len(ways); chosen++ {
		k, want := right, api.OK
		for n := len(ways) - 1; n >= 0; n-- { // those that are told first are done last, so that none is undone
			if chosen>>n&1 == 1 {
				ways[n].does(&k)
				want = ways[n].err
			}
		}
		if got := k.ask(v); got.err != want || !got.isBare() {
			t.Errorf("%v = %v, want %d", k, got, want)
		}
	}
	if got := right.ask(some(t)); got.err != api.OK {
		t.Errorf("%v = %v, want it to be right", right, got)
	}
}

// at makes a call's time another one.
func at(t int64) func(k *call) { return func(k *call) { k.at = t } }

// of an account, an amount, an ID.
func account(n int) func(k *call) { return func(k *call) { k.p.Account = n } }
func amountOf(n int64) func(k *call) {
	return func(k *call) { k.p.N = n }
}
func id(n int) func(k *call) { return func(k *call) { k.p.ID = n } }

// P15.1: of what is wrong with an Open the first is told: the stamp, its order, the account, that it is there, the amount.
func TestOpenRefusedInOrder(t *testing.T) {
	right := call{kind: kindOpen, at: 26, p: pays(0, 6, 5)}
	for _, stamp := range noStamps() {
		for _, no := range noAccounts() {
			tellsFirst(t, right, wrong{api.ErrVaultTime, at(stamp)}, wrong{api.ErrVaultAccount, account(no)}, wrong{api.ErrVaultAmount, amountOf(-1)})
		}
	}
	for _, stamp := range []int64{1, 2, 15, 20, 24, 25} {
		for _, there := range []int{1, 2, 3, 4, 5, 8, 9} {
			for _, n := range noAmounts() {
				tellsFirst(t, right, wrong{api.ErrVaultOrder, at(stamp)}, wrong{api.ErrVaultAccount, account(4096)}, wrong{api.ErrVaultThere, account(there)}, wrong{api.ErrVaultAmount, amountOf(n)})
			}
		}
	}
}

// P15.2: and with a Hold: the stamp, its order, the ID, that it is known, the account, the amount, that it isn't open, that it is busy, that it has too little, or would have too much.
func TestHoldRefusedInOrder(t *testing.T) {
	for _, right := range []call{{kind: kindHold, at: 26, p: pays(9, 1, 5)}, {kind: kindHold, at: 26, p: gets(9, 1, 5)}, {kind: kindHold, at: end, p: gets(mostInt, 9, 5)}} {
		for _, stamp := range noStamps() {
			tellsFirst(t, right, wrong{api.ErrVaultTime, at(stamp)}, wrong{api.ErrVaultID, id(0)}, wrong{api.ErrVaultAccount, account(-1)}, wrong{api.ErrVaultAmount, amountOf(0)})
		}
		for _, stamp := range []int64{1, 15, 20, 25} {
			for _, no := range noIDs() {
				tellsFirst(t, right, wrong{api.ErrVaultOrder, at(stamp)}, wrong{api.ErrVaultID, id(no)}, wrong{api.ErrVaultTwice, id(1)}, wrong{api.ErrVaultAccount, account(-1)}, wrong{api.ErrVaultAmount, amountOf(0)})
			}
		}
		for _, known := range []int{1, 2, 3} {
			for _, no := range noAccounts() {
				for _, n := range noParts() {
					tellsFirst(t, right, wrong{api.ErrVaultTwice, id(known)}, wrong{api.ErrVaultAccount, account(no)}, wrong{api.ErrVaultAmount, amountOf(n)}, wrong{api.ErrVaultNone, account(6)})
					tellsFirst(t, right, wrong{api.ErrVaultTwice, id(known)}, wrong{api.ErrVaultAmount, amountOf(n)}, wrong{api.ErrVaultBusy, account(5)})
				}
			}
		}
	}
	payer, payee := call{kind: kindHold, at: 26, p: pays(9, 1, 5)}, call{kind: kindHold, at: 26, p: gets(9, 1, 5)}
	for _, n := range []int64{68, 100, most - 1, most} {
		tellsFirst(t, payer, wrong{api.ErrVaultTwice, id(2)}, wrong{api.ErrVaultNone, account(6)}, wrong{api.ErrVaultBusy, account(5)}, wrong{api.ErrVaultShort, amountOf(n)})
	}
	for _, n := range []int64{most - 99, most} {
		tellsFirst(t, payee, wrong{api.ErrVaultTwice, id(2)}, wrong{api.ErrVaultNone, account(6)}, wrong{api.ErrVaultBusy, account(5)}, wrong{api.ErrVaultFull, amountOf(n)})
	}
}

// P15.2: that too many are known is told behind the stamp and the ID, and ahead of all that is wrong with the rest of the part.
func TestHoldManyInOrder(t *testing.T) {
	v := full(t, api.MaxFates)
	top := v.Top()
	for _, k := range []struct {
		at   int64
		p    api.Part
		want api.Errno
	}{
		{0, pays(5001, 4, 1), api.ErrVaultTime},
		{end + 1, pays(5001, -1, 0), api.ErrVaultTime},
		{top, pays(5001, 4, 1), api.ErrVaultOrder},
		{1, pays(0, -1, 0), api.ErrVaultOrder},
		{top + 1, pays(0, 4, 1), api.ErrVaultID},
		{top + 1, pays(5000, 4, 1), api.ErrVaultTwice},
		{top + 1, pays(1, -1, 0), api.ErrVaultTwice},
		{top + 1, pays(5001, -1, 0), api.ErrVaultMany},
		{top + 1, pays(5001, 4, 0), api.ErrVaultMany},
		{top + 1, pays(5001, 5, 1), api.ErrVaultMany},
		{top + 1, pays(5001, 1, 1), api.ErrVaultMany},
		{top + 1, pays(5001, 4, most), api.ErrVaultMany},
		{top + 1, gets(5001, 4, most), api.ErrVaultMany},
	} {
		if err := v.Hold(k.at, k.p); err != k.want {
			t.Error(k, err)
		}
	}
}

// P15.3: of a Commit the stamp is told first, then what the part is, then its order.
func TestCommitRefusedInOrder(t *testing.T) {
	v := some(t)
	for _, k := range []struct {
		at   int64
		id   int
		want api.Errno
	}{
		{0, 1, api.ErrVaultTime}, {-1, 2, api.ErrVaultTime}, {end + 1, 3, api.ErrVaultTime}, {0, 0, api.ErrVaultTime}, {high, 9, api.ErrVaultTime}, {low, mostInt, api.ErrVaultTime},
		{1, 0, api.ErrVaultHold}, {12, -1, api.ErrVaultHold}, {1, 2, api.ErrVaultHold}, {end, 2, api.ErrVaultHold}, {1, 9, api.ErrVaultHold}, {20, mostInt, api.ErrVaultHold},
		{1, 1, api.ErrVaultTwice}, {10, 1, api.ErrVaultTwice}, {11, 1, api.ErrVaultTwice}, {13, 1, api.ErrVaultTwice}, {end, 1, api.ErrVaultTwice}, {12, 1, api.OK},
		{1, 3, api.ErrVaultOrder}, {15, 3, api.ErrVaultOrder}, {16, 3, api.ErrVaultOrder}, {19, 3, api.ErrVaultOrder}, {20, 3, api.OK},
	} {
		if err := v.Commit(k.at, k.id); err != k.want {
			t.Error(k, err)
		}
	}
}

// P15.4: of a Close, or a Prune, what is no time is told first.
func TestCloseAndPruneRefusedInOrder(t *testing.T) {
	v := some(t)
	for _, no := range noTimes() {
		if a, b := v.Close(no), v.Prune(no); a != api.ErrVaultTime || b != api.ErrVaultTime {
			t.Error(no, a, b)
		}
	}
	for _, late := range []int64{20, 21, 25, 26, end - 1, end} {
		if a, b := v.Close(late), v.Prune(late); a != api.ErrVaultBusy || b != api.ErrVaultOpen {
			t.Error(late, a, b)
		}
	}
	for _, late := range []int64{16, 17, 19} {
		if err := v.Prune(late); err != api.ErrVaultOpen {
			t.Error(late, err)
		}
	}
}

// P15.5: of a Has the account is told first, then the time, that it isn't closed up to there, that it is ahead of the mark, and that the account isn't open then.
func TestHasRefusedInOrder(t *testing.T) {
	v := some(t)
	for _, account := range []int{1, 6, 9, 4095} {
		for _, no := range noTimes() {
			if n, err := v.Has(account, no); n != 0 || err != api.ErrVaultTime {
				t.Error(account, no, n, err)
			}
		}
		for _, late := range []int64{16, 25, end} {
			if n, err := v.Has(account, late); n != 0 || err != api.ErrVaultOpen {
				t.Error(account, late, n, err)
			}
		}
		for _, old := range []int64{0, 1, 9} {
			if n, err := v.Has(account, old); n != 0 || err != api.ErrVaultOld {
				t.Error(account, old, n, err)
			}
		}
		for _, when := range []int64{10, 15} {
			if n, err := v.Has(account, when); account != 1 && (n != 0 || err != api.ErrVaultNone) || account == 1 && (n != 100 || err != api.OK) {
				t.Error(account, when, n, err)
			}
		}
	}
	for _, no := range noAccounts() {
		for _, when := range append(noTimes(), 0, 9, 10, 15, 16) {
			if n, err := v.Has(no, when); n != 0 || err != api.ErrVaultAccount {
				t.Error(no, when, n, err)
			}
		}
	}
}

// refusable is calls of which most are refused by some.
func refusable() []call {
	var l []call
	for _, when := range append(noStamps(), 1, 9, 10, 11, 12, 15, 16, 19, 20, 24, 25, 26, end) {
		for _, p := range []api.Part{pays(9, -1, 5), pays(9, 4096, 5), pays(9, 6, 5), pays(9, 1, 0), pays(9, 1, -1), pays(9, 1, most+1), pays(9, 1, 68), gets(9, 4, 1), gets(9, 3, 2), gets(9, 5, 1), pays(0, 1, 5), pays(-1, 1, 5), gets(1, 1, 5), gets(2, 1, 5), gets(3, 1, 5), gets(9, 1, 5)} {
			l = append(l, call{kind: kindHold, at: when, p: p}, call{kind: kindOpen, at: when, p: p})
		}
		for _, id := range []int{leastInt, -1, 0, 1, 2, 3, 9, mostInt} {
			l = append(l, call{kind: kindCommit, at: when, p: api.Part{ID: id}}, call{kind: kindDrop, at: when, p: api.Part{ID: id}})
		}
		for _, account := range []int{-1, 0, 1, 8, 9, 4095, 4096} {
			l = append(l, call{kind: kindHas, at: when, p: api.Part{Account: account}})
		}
		l = append(l, call{kind: kindClose, at: when}, call{kind: kindPrune, at: when}, call{kind: kindSnap, at: when})
	}
	return l
}

// onward is calls by which all that a vault has is told, and how it goes on.
func onward() []call {
	var l []call
	asks := func() {
		for kind := range kinds {
			for when := int64(8); when < 60; when += 1 + when/10 {
				if kind == kindHas || kind == kindSnap {
					l = append(l, call{kind: kind, at: when, p: api.Part{Account: int(when) % 10}})
				}
			}
		}
		for id := -1; id < 12; id++ {
			l = append(l, call{kind: kindFate, p: api.Part{ID: id}})
		}
		l = append(l, call{kind: kindHeld})
	}
	asks()
	l = append(l, call{kind: kindClose, at: 19}, call{kind: kindHold, at: 26, p: pays(9, 1, 66)}, call{kind: kindHold, at: 27, p: gets(10, 3, 1)}, call{kind: kindCommit, at: 22, p: api.Part{ID: 3}})
	asks()
	l = append(l, call{kind: kindCommit, at: 27, p: api.Part{ID: 10}}, call{kind: kindDrop, p: api.Part{ID: 9}}, call{kind: kindOpen, at: 28, p: api.Part{Account: 6, N: 5}}, call{kind: kindClose, at: 50}, call{kind: kindPrune, at: 20})
	asks()
	return l
}

// P15.1 to P15.5: a call that is refused leaves the vault as it was: it is as one that never was asked, and goes on as that does.
func TestRefusedCallsChangeNothing(t *testing.T) {
	on := onward()
	var want []said
	b := some(t)
	for _, k := range on {
		want = append(want, k.ask(b))
	}
	asked, all := map[int]int{}, some(t)
	for _, k := range refusable() {
		a := some(t)
		got := k.ask(a)
		if got.err == api.OK {
			continue
		}
		asked[k.kind]++
		if !got.isBare() {
			t.Errorf("%v: %v", k, got)
		}
		k.ask(all)
		for n, next := range on {
			if got := next.ask(a); !got.like(want[n]) {
				t.Errorf("%v, then %v = %v, want %v", k, next, got, want[n])
			}
		}
	}
	for n, next := range on { // and so is one of which all of them were asked
		if got := next.ask(all); !got.like(want[n]) {
			t.Errorf("behind all, %v = %v, want %v", next, got, want[n])
		}
	}
	for _, kind := range []int{kindOpen, kindHold, kindCommit, kindDrop, kindClose, kindPrune, kindHas, kindSnap} {
		if asked[kind] < 15 {
			t.Error("too few of", kind, asked)
		}
	}
}

// P1: every call answers, at all arguments, and beside an error all else is nought.
func TestAllAnswer(t *testing.T) {
	times := append(noTimes(), 0, 1, 15, 16, 20, 25, 26, end)
	ids := append(noIDs(), 1, 2, 3, 9, mostInt)
	accounts := append(noAccounts(), 0, 1, 5, 9, 4095)
	amounts := append(noParts(), 1, most)
	for n, when := range times {
		for k, id := range ids {
			for _, account := range accounts {
				v := some(t)
				for kind := range kinds {
					p := api.Part{ID: id, Account: account, N: amounts[(n+k)%len(amounts)], Pays: (n+k)%2 == 0}
					got := call{kind: kind, at: when, p: p}.ask(v)
					if !got.isBare() || got.top < got.closed || got.closed < got.mark || got.mark < 0 || got.top > end {
						t.Errorf("%d at %d of %v: %v", kind, when, p, got)
					}
				}
			}
		}
	}
	for _, n := range amounts {
		v := some(t)
		for _, account := range accounts {
			for kind := range kinds {
				call{kind: kind, at: 26, p: pays(9, account, n)}.ask(v)
				call{kind: kind, at: 27, p: gets(10, account, n)}.ask(v)
			}
		}
	}
}
