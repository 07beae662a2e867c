package vault

import (
	"testing"

	"moiety/api"
)

// P15.2: a part that is held is told, with its charge, since its stamp; its account has what it had, and the stamp is met.
func TestHold(t *testing.T) {
	d := having(t, 0.5, 7, 100, 8, 50)
	d.hold(5, pays(3, 7, 41), api.OK)
	d.held(api.Held{Part: pays(3, 7, 41), T: 5, Fee: 20})
	d.fate(3, api.FateHeld, 5)
	d.tells(5, 0, 0)
	d.hold(9, gets(2, 8, 41), api.OK)
	d.held(api.Held{Part: gets(2, 8, 41), T: 9}, api.Held{Part: pays(3, 7, 41), T: 5, Fee: 20})
	d.fate(2, api.FateHeld, 9)
	d.tells(9, 0, 0)
	d.close(4, api.OK)
	d.snap(4, 7, 100, 8, 50)
}

// P15.2: the charge is the fee of what is paid by the vault's rate; who gets is charged nothing.
func TestHoldCharge(t *testing.T) {
	for _, rate := range someRates() {
		for _, n := range []int64{1, 2, 3, 99, 100, 101, 199, 200, 1000, 1 << 40, most / 2} {
			d := having(t, rate, 1, most, 2, 0)
			d.hold(3, pays(1, 1, n), api.OK)
			d.hold(4, gets(2, 2, n), api.OK)
			d.held(api.Held{Part: pays(1, 1, n), T: 3, Fee: d.p.fee(n)}, api.Held{Part: gets(2, 2, n), T: 4})
			d.commit(5, 1, api.OK)
			d.commit(5, 2, api.OK)
			d.close(5, api.OK)
			d.has(1, 5, most-n-d.p.fee(n))
			d.has(2, 5, n)
		}
	}
}

// P15.2: a part comes above the top, as what is opened does: not at it, nor below.
func TestHoldAboveTheTop(t *testing.T) {
	for _, top := range []int64{1, 2, 50, end - 1, end} {
		for _, at := range aroundAll(1, top-20, top) {
			if at == 0 {
				continue
			}
			for _, part := range []api.Part{pays(1, 7, 5), gets(1, 7, 5)} {
				d := begun(t, 0.01)
				d.open(top, 7, 5, api.OK)
				if at > top {
					d.hold(at, part, api.OK)
					d.tells(at, 0, 0)
					continue
				}
				d.hold(at, part, api.ErrVaultOrder)
				d.tells(top, 0, 0)
			}
		}
	}
}

// P15.2: what was closed, held or committed is met too: a new part comes above it.
func TestHoldAboveAllThatWasMet(t *testing.T) {
	d := having(t, 0.5, 7, 100, 8, 100, 9, 100)
	d.close(10, api.OK)
	d.hold(10, pays(1, 7, 5), api.ErrVaultOrder)
	d.hold(11, pays(1, 7, 5), api.OK)
	d.hold(11, pays(2, 8, 5), api.ErrVaultOrder)
	d.hold(12, pays(2, 8, 5), api.OK)
	d.commit(20, 1, api.OK)
	d.hold(20, pays(3, 9, 5), api.ErrVaultOrder)
	d.commit(15, 2, api.OK)
	d.hold(16, pays(3, 9, 5), api.ErrVaultOrder)
	d.hold(21, pays(3, 9, 5), api.OK)
	d.tells(21, 10, 0)
}

// P15.2: any number from 1 on is an ID; numbers below are none.
func TestHoldID(t *testing.T) {
	for _, id := range []int{1, 2, 3, 5000, 5001, 1 << 32, mostInt - 1, mostInt} {
		d := having(t, 0.5, 7, 100)
		d.hold(2, pays(id, 7, 5), api.OK)
		d.fate(id, api.FateHeld, 2)
		d.commit(3, id, api.OK)
		d.fate(id, api.FateCommitted, 3)
	}
	for _, id := range noIDs() {
		d := having(t, 0.5, 7, 100)
		d.hold(2, pays(id, 7, 5), api.ErrVaultID)
		d.hold(2, gets(id, 7, 5), api.ErrVaultID)
		d.tells(1, 0, 0)
	}
}

// P15.2: an ID is held once, whatever became of it, also if it was only dropped, and of whichever account.
func TestHoldTwice(t *testing.T) {
	d := having(t, 0.5, 7, 100, 8, 100)
	d.hold(3, pays(1, 7, 5), api.OK)
	d.hold(4, pays(2, 8, 5), api.OK)
	d.commit(4, 2, api.OK)
	d.drop(3, api.OK)
	d.hold(5, pays(4, 8, 5), api.OK)
	d.drop(4, api.OK)
	for id := 1; id <= 4; id++ {
		for _, account := range []int{7, 8, 9} {
			d.hold(6, pays(id, account, 5), api.ErrVaultTwice)
			d.hold(6, gets(id, account, 5), api.ErrVaultTwice)
		}
	}
	d.tells(5, 0, 0)
	d.hold(6, pays(5, 8, 5), api.OK)
}

// P15.2: of one account one part is held at once; of others as many as there are; once it is committed, or dropped, the next one.
func TestHoldBusy(t *testing.T) {
	for _, first := range []api.Part{pays(1, 7, 5), gets(1, 7, 5)} {
		for _, second := range []api.Part{pays(2, 7, 5), gets(2, 7, 5), pays(2, 7, 1000), gets(2, 7, most)} {
			d := having(t, 0.5, 7, 100, 8, 100)
			d.hold(3, first, api.OK)
			d.hold(4, second, api.ErrVaultBusy)
			d.tells(3, 0, 0)
		}
	}
	d := having(t, 0.5, 7, 100, 8, 100, 9, 0)
	d.hold(4, pays(1, 7, 5), api.OK)
	d.hold(5, gets(2, 9, 5), api.OK)
	d.hold(6, pays(3, 7, 5), api.ErrVaultBusy)
	d.drop(1, api.OK)
	d.hold(6, pays(3, 7, 5), api.OK)
	d.hold(7, pays(4, 9, 1), api.ErrVaultBusy)
	d.commit(7, 2, api.OK)
	d.hold(8, pays(4, 9, 1), api.OK)
	d.held(api.Held{Part: pays(3, 7, 5), T: 6, Fee: 2}, api.Held{Part: pays(4, 9, 1), T: 8})
}

// P15.2: who pays may pay just what is there with the charge, and no more.
func TestHoldShort(t *testing.T) {
	for _, k := range []struct {
		rate      float64
		has, n    int64
		isTooMuch bool
	}{
		{0.5, 30, 20, false},
		{0.5, 29, 20, true},
		{0.5, 31, 21, false},
		{0.5, 31, 22, true},
		{0.01, 202, 200, false},
		{0.01, 201, 200, true},
		{0.01, 200, 199, false},
		{0.01, 199, 199, true},
		{0, 5, 5, false},
		{0, 4, 5, true},
		{1, 10, 5, false},
		{1, 9, 5, true},
		{0, 0, 1, true},
		{0, most, most, false},
		{0, most - 1, most, true},
		{1, most, most / 2, false},
		{1, most - 1, most / 2, true},
		{1, most, most, true},
		{0.5, 1, 1, false},
		{0.5, 2, 2, true},
		{0.5, 3, 2, false},
	} {
		d := having(t, k.rate, 7, k.has)
		if k.isTooMuch {
			d.hold(2, pays(1, 7, k.n), api.ErrVaultShort)
			d.tells(1, 0, 0)
			d.fate(1, api.FateNone, 0)
			continue
		}
		d.hold(2, pays(1, 7, k.n), api.OK)
		d.commit(2, 1, api.OK)
		d.close(2, api.OK)
		d.has(7, 2, k.has-k.n-d.p.fee(k.n))
	}
}

// P15.2: who gets may get what makes just the greatest amount, and no more, whatever the rate.
func TestHoldFull(t *testing.T) {
	for _, rate := range []float64{0, 0.01, 1} {
		for _, has := range []int64{0, 1, 5, most / 2, most - 1, most} {
			d := having(t, rate, 7, has)
			for _, n := range []int64{most - has + 1, most - has + 2, most} {
				if n > 0 && n <= most && has+n > most {
					d.hold(2, gets(1, 7, n), api.ErrVaultFull)
				}
			}
			if has == most {
				continue
			}
			d.hold(2, gets(1, 7, most-has), api.OK)
			d.commit(2, 1, api.OK)
			d.hold(3, gets(2, 7, 1), api.ErrVaultFull)
			d.hold(3, pays(2, 7, 1), api.OK)
		}
	}
}

// P15.2: what counts is what the account has now: what it got it may pay, what it paid it may get, closed up to there or not; but not what is only held, nor what was dropped.
func TestHoldByWhatIsThereNow(t *testing.T) {
	d := having(t, 0, 7, 0, 8, most)
	d.hold(3, gets(1, 7, 10), api.OK)
	d.hold(4, pays(2, 8, 10), api.OK)
	d.commit(5, 1, api.OK)
	d.hold(6, pays(3, 7, 11), api.ErrVaultShort)
	d.hold(6, pays(3, 7, 10), api.OK)
	d.drop(3, api.OK)
	d.hold(7, pays(4, 7, 11), api.ErrVaultShort)
	d.hold(7, pays(4, 7, 10), api.OK)
	d.commit(9, 4, api.OK)
	d.hold(10, pays(5, 7, 1), api.ErrVaultShort)
	d.commit(10, 2, api.OK)
	d.hold(11, gets(5, 8, 11), api.ErrVaultFull)
	d.hold(11, gets(5, 8, 10), api.OK)
	d.drop(5, api.OK)
	d.close(20, api.OK)
	d.prune(20, api.OK)
	d.hold(21, pays(6, 7, 1), api.ErrVaultShort)
	d.hold(21, gets(6, 8, 11), api.ErrVaultFull)
	d.hold(21, gets(6, 8, 10), api.OK)
}

// P15.2: an account that isn't open can't be held, whether others are or not, nor is what another one has paid an account.
func TestHoldNone(t *testing.T) {
	d := having(t, 0.5, 7, 100)
	for _, account := range []int{0, 1, 6, 8, 4094, 4095} {
		d.hold(2, pays(1, account, 1), api.ErrVaultNone)
		d.hold(2, gets(1, account, 1), api.ErrVaultNone)
	}
	d.hold(2, pays(1, 7, 10), api.OK)
	d.commit(2, 1, api.OK)
	for _, account := range noAccounts() {
		d.hold(3, pays(2, account, 1), api.ErrVaultAccount)
		d.hold(3, gets(2, account, 1), api.ErrVaultAccount)
	}
	d.tells(2, 0, 0)
}

// P15.2: what is no amount above 0 can't be held, by who pays or who gets.
func TestHoldNoAmount(t *testing.T) {
	for _, rate := range []float64{0, 0.5, 1} {
		d := having(t, rate, 7, 100, 8, most)
		for _, n := range noParts() {
			d.hold(3, pays(1, 7, n), api.ErrVaultAmount)
			d.hold(3, gets(1, 7, n), api.ErrVaultAmount)
			d.hold(3, gets(1, 8, n), api.ErrVaultAmount)
		}
		d.tells(2, 0, 0)
	}
}

// P15.5: all that are held are told by rising IDs, in whichever order they were held, also if it is one of each account there is.
func TestHeldOfAll(t *testing.T) {
	v := made(t, 0.5)
	for account := range api.MaxAccounts {
		if err := v.Open(int64(account+1), account, 100); err != api.OK {
			t.Fatal(account, err)
		}
	}
	want := make([]api.Held, api.MaxAccounts)
	for k := range api.MaxAccounts {
		account := k * 1237 % api.MaxAccounts
		id := 1 + k*2311%api.MaxAccounts
		x := api.Held{Part: api.Part{ID: id, Account: account, N: int64(2 + k%50), Pays: k%2 == 0}, T: int64(5000 + k)}
		if x.Part.Pays {
			x.Fee = x.Part.N / 2
		}
		if err := v.Hold(x.T, x.Part); err != api.OK {
			t.Fatal(x, err)
		}
		want[id-1] = x
	}
	sameHeld(t, v, want)
	for k, x := range want {
		if err := v.Hold(20000, gets(4097, x.Part.Account, 1)); err != api.ErrVaultBusy {
			t.Fatal(k, err)
		}
	}
	var left []api.Held
	for k, x := range want {
		switch k % 3 {
		case 0:
			left = append(left, x)
		case 1:
			if err := v.Commit(10000, x.Part.ID); err != api.OK {
				t.Fatal(x, err)
			}
		case 2:
			if err := v.Drop(x.Part.ID); err != api.OK {
				t.Fatal(x, err)
			}
		}
	}
	sameHeld(t, v, left)
}

// sameHeld holds all parts that are held against those that are to be.
func sameHeld(t *testing.T, v *Vault, want []api.Held) {
	t.Helper()
	got := v.Held()
	if len(got) != len(want) {
		t.Fatalf("%d are held, want %d", len(got), len(want))
	}
	for k := range want {
		if got[k] != want[k] {
			t.Errorf("the part %d that is held is %v, want %v", k, got[k], want[k])
		}
	}
}
