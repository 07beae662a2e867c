package vault

import (
	"testing"

	"moiety/api"
)

// P15.3: what was held happens from the stamp on, not ahead of it: who pays has the amount and the charge less, and has paid the charge more.
func TestCommitPays(t *testing.T) {
	d := having(t, 0.5, 7, 100)
	d.hold(5, pays(1, 7, 20), api.OK)
	d.commit(9, 1, api.OK)
	d.fate(1, api.FateCommitted, 9)
	d.held()
	d.tells(9, 0, 0)
	d.close(20, api.OK)
	d.has(7, 8, 100)
	d.has(7, 9, 70)
	d.snap(8, 7, 100)
	d.snap(9, 7, 70, 4103, 10)
	d.hold(21, pays(2, 7, 5), api.OK)
	d.commit(22, 2, api.OK)
	d.close(22, api.OK)
	d.snap(21, 7, 70, 4103, 10)
	d.snap(22, 7, 63, 4103, 12)
}

// P15.3: who gets has the amount more, and has paid nothing more.
func TestCommitGets(t *testing.T) {
	d := having(t, 0.5, 7, 100)
	d.hold(5, gets(1, 7, 20), api.OK)
	d.commit(9, 1, api.OK)
	d.fate(1, api.FateCommitted, 9)
	d.held()
	d.tells(9, 0, 0)
	d.close(20, api.OK)
	d.snap(8, 7, 100)
	d.snap(9, 7, 120)
	d.hold(21, pays(2, 7, 40), api.OK)
	d.commit(21, 2, api.OK)
	d.hold(22, gets(3, 7, 1), api.OK)
	d.commit(23, 3, api.OK)
	d.close(23, api.OK)
	d.snap(21, 7, 60, 4103, 20)
	d.snap(23, 7, 61, 4103, 20)
}

// P15.3, P15.6: who pays all that is there, with the charge, has nothing then; whose charge is nothing has paid nothing, of which there is no entry.
func TestCommitAllAndNoCharge(t *testing.T) {
	d := having(t, 0.5, 7, 30, 0, 1, 4095, 3)
	d.hold(5, pays(1, 7, 20), api.OK)
	d.hold(6, pays(2, 0, 1), api.OK)
	d.hold(7, pays(3, 4095, 2), api.OK)
	for id := 1; id <= 3; id++ {
		d.commit(8, id, api.OK)
	}
	d.close(8, api.OK)
	d.snap(8, 0, 0, 7, 0, 4095, 0, 4103, 10, 8191, 1)
	d.has(0, 8, 0)
}

// P15.3: a part is committed from the stamp on since when it is held, below, at and above the top, not earlier.
func TestCommitAtAnyStamp(t *testing.T) {
	for _, at := range aroundAll(1, 2, 10, 15, 20) {
		d := having(t, 0.5, 7, 100, 8, 100)
		d.close(5, api.OK)
		d.hold(10, pays(1, 7, 20), api.OK)
		d.hold(20, gets(2, 8, 20), api.OK)
		want := api.OK
		if at == 0 {
			want = api.ErrVaultTime
		} else if at < 10 {
			want = api.ErrVaultOrder
		}
		d.commit(at, 1, want)
		if want != api.OK {
			d.tells(20, 5, 0)
			d.fate(1, api.FateHeld, 10)
			d.commit(10, 1, api.OK)
			continue
		}
		d.tells(max(20, at), 5, 0)
		d.fate(1, api.FateCommitted, at)
		d.fate(2, api.FateHeld, 20)
		d.commit(20, 2, api.OK)
		d.close(max(20, at), api.OK)
		d.has(7, at, 70)
		d.has(7, at-1, 100)
	}
}

// P15.3: what is no stamp commits nothing, whatever the part is.
func TestCommitNoStamp(t *testing.T) {
	d := fated(t)
	for _, at := range noStamps() {
		for _, id := range append(noIDs(), 1, 2, 3, 4, 5, mostInt) {
			d.commit(at, id, api.ErrVaultTime)
		}
	}
}

// fated is a vault by a half in which 1 was held and is, 2 was committed at 9, 3 was held and dropped, and 4 only dropped; 5 is not known.
func fated(t *testing.T) *pair {
	t.Helper()
	d := having(t, 0.5, 7, 100, 8, 100, 9, 100)
	d.hold(6, pays(2, 8, 10), api.OK)
	d.hold(7, pays(3, 9, 10), api.OK)
	d.hold(8, pays(1, 7, 10), api.OK)
	d.commit(9, 2, api.OK)
	d.drop(3, api.OK)
	d.drop(4, api.OK)
	return d
}

// P15.3, P15.5: the fates of all: none, also of what is no ID; held, committed or dropped.
func TestFates(t *testing.T) {
	d := fated(t)
	d.fate(1, api.FateHeld, 8)
	d.fate(2, api.FateCommitted, 9)
	d.fate(3, api.FateDropped, 0)
	d.fate(4, api.FateDropped, 0)
	for _, id := range append(noIDs(), 5, 6, 5000, mostInt-1, mostInt) {
		d.fate(id, api.FateNone, 0)
	}
}

// P15.3: what is neither held nor committed can't be committed: what isn't known, what is no ID, what was dropped.
func TestCommitNotHeld(t *testing.T) {
	d := fated(t)
	for _, at := range []int64{1, 6, 7, 8, 9, 10, end - 1, end} {
		for _, id := range append(noIDs(), 3, 4, 5, 6, mostInt) {
			d.commit(at, id, api.ErrVaultHold)
		}
	}
	d.tells(9, 0, 0)
}

// P15.3: what was committed is committed again at its own stamp, and nothing changes; at no other one, below or above.
func TestCommitTwice(t *testing.T) {
	d := fated(t)
	for _, at := range []int64{1, 5, 6, 7, 8, 10, 11, end - 1, end} {
		d.commit(at, 2, api.ErrVaultTwice)
		d.commit(9, 2, api.OK)
	}
	d.fate(2, api.FateCommitted, 9)
	d.tells(9, 0, 0)
	d.hold(10, pays(6, 8, 10), api.OK) // its account is another part's now, which isn't done by this one
	d.commit(9, 2, api.OK)
	d.fate(6, api.FateHeld, 10)
	d.drop(1, api.OK)
	d.drop(6, api.OK)
	d.close(20, api.OK)
	d.commit(9, 2, api.OK)
	d.commit(10, 2, api.ErrVaultTwice)
	d.prune(20, api.OK)
	d.commit(9, 2, api.OK)
	d.tells(20, 20, 20)
	d.snap(20, 7, 100, 8, 85, 9, 100, 4104, 5)
}

// P15.3: what is dropped never happens, its account is free then, and no stamp is met.
func TestDrop(t *testing.T) {
	d := having(t, 0.5, 7, 100)
	d.hold(5, pays(1, 7, 20), api.OK)
	d.drop(1, api.OK)
	d.held()
	d.fate(1, api.FateDropped, 0)
	d.tells(5, 0, 0)
	d.close(5, api.OK)
	d.hold(6, gets(2, 7, 20), api.OK)
	d.drop(1, api.OK) // its account is another part's now, which stays
	d.fate(2, api.FateHeld, 6)
	d.held(api.Held{Part: gets(2, 7, 20), T: 6})
	d.drop(2, api.OK)
	d.close(9, api.OK)
	d.snap(9, 7, 100)
}

// P15.3: what isn't known is dropped too, by any ID, and is known then; what was dropped is dropped again.
func TestDropUnknown(t *testing.T) {
	d := begun(t, 0.5)
	for _, id := range []int{1, 2, 3, 5000, 1 << 32, mostInt - 1, mostInt} {
		for range 3 {
			d.drop(id, api.OK)
			d.fate(id, api.FateDropped, 0)
		}
		d.commit(5, id, api.ErrVaultHold)
		d.hold(5, pays(id, 7, 5), api.ErrVaultTwice)
	}
	for _, id := range noIDs() {
		d.drop(id, api.ErrVaultID)
		d.fate(id, api.FateNone, 0)
	}
	d.tells(0, 0, 0)
}

// P15.3: what was committed isn't dropped, at no time.
func TestDropCommitted(t *testing.T) {
	d := fated(t)
	d.drop(2, api.ErrVaultTwice)
	d.drop(1, api.OK)
	d.drop(2, api.ErrVaultTwice)
	d.close(20, api.OK)
	d.drop(2, api.ErrVaultTwice)
	d.prune(20, api.OK)
	d.drop(2, api.ErrVaultTwice)
	d.fate(2, api.FateCommitted, 9)
}

// full is a vault that knows as many parts as it may, the IDs from 1 on: each third of them was committed, and each third dropped, of which some were never held; the last three are held, of the accounts 1, 2 and 3, of which the first two pay.
func full(t *testing.T, n int) *Vault {
	t.Helper()
	v := made(t, 0.5)
	for account := 1; account <= 4; account++ {
		if err := v.Open(int64(account), account, most/2); err != api.OK {
			t.Fatal(account, err)
		}
	}
	for id := 1; id <= n; id++ {
		at, part := int64(10+10*id), api.Part{ID: id, Account: 1 + id%3, N: 2, Pays: id%3 < 2}
		var errs []api.Errno
		switch {
		case id > n-3:
			errs = append(errs, v.Hold(at, part))
		case id%3 == 0:
			errs = append(errs, v.Hold(at, part), v.Commit(at+5, id))
		case id%3 == 1:
			errs = append(errs, v.Hold(at, part), v.Drop(id))
		case id%3 == 2:
			errs = append(errs, v.Drop(id))
		}
		for _, err := range errs {
			if err != api.OK {
				t.Fatal(id, err)
			}
		}
	}
	return v
}

// P15.2, P15.3: a vault that knows as many parts as it may holds no other one, and drops none that it doesn't know.
func TestFull(t *testing.T) {
	v := full(t, api.MaxFates)
	top := v.Top()
	for _, id := range []int{5001, 5002, 1 << 32, mostInt} {
		for _, part := range []api.Part{pays(id, 4, 1), gets(id, 4, 1), pays(id, 1, 1), pays(id, 5000, 0)} {
			if err := v.Hold(top+1, part); err != api.ErrVaultMany {
				t.Error(part, err)
			}
		}
		if err := v.Drop(id); err != api.ErrVaultMany {
			t.Error(id, err)
		}
		if is, at := v.Fate(id); is != api.FateNone || at != 0 {
			t.Error(id, is, at)
		}
	}
	for _, id := range noIDs() {
		if err := v.Hold(top+1, pays(id, 4, 1)); err != api.ErrVaultID {
			t.Error(id, err)
		}
		if err := v.Drop(id); err != api.ErrVaultID {
			t.Error(id, err)
		}
	}
	for _, id := range []int{1, 2, 3, 4998, 4999, 5000} {
		if err := v.Hold(top+1, pays(id, 4, 1)); err != api.ErrVaultTwice {
			t.Error(id, err)
		}
	}
	if v.Top() != top || len(v.Held()) != 3 {
		t.Error(v.Top(), top, v.Held())
	}
}

// P15.3: what it knows it commits and drops as ever; and that makes no room.
func TestFullGoesOn(t *testing.T) {
	v := full(t, api.MaxFates)
	for id, want := range map[int]api.Errno{1: api.OK, 2: api.OK, 3: api.ErrVaultTwice, 4997: api.OK, 4998: api.OK, 4999: api.OK, 5001: api.ErrVaultMany} {
		if err := v.Drop(id); err != want {
			t.Error("Drop", id, err)
		}
	}
	for _, k := range []struct {
		at   int64
		id   int
		want api.Errno
	}{{45, 3, api.OK}, {46, 3, api.ErrVaultTwice}, {60000, 1, api.ErrVaultHold}, {60000, 4999, api.ErrVaultHold}, {50009, 5000, api.ErrVaultOrder}, {60000, 5000, api.OK}, {60000, 5001, api.ErrVaultHold}} {
		if err := v.Commit(k.at, k.id); err != k.want {
			t.Error("Commit", k, err)
		}
	}
	if err := v.Hold(70000, pays(5001, 4, 1)); err != api.ErrVaultMany || len(v.Held()) != 0 {
		t.Error(err, v.Held())
	}
	if err := v.Open(70000, 5, 1); err != api.OK {
		t.Error(err)
	}
}

// P15.2, P15.3: one fewer, and there is room for just one more: one that is held, or one that isn't known and dropped.
func TestAllButFull(t *testing.T) {
	v := full(t, api.MaxFates-1)
	if err := v.Drop(1); err != api.OK { // it is known
		t.Error(err)
	}
	if err := v.Drop(mostInt); err != api.OK {
		t.Error(err)
	}
	if err := v.Drop(mostInt); err != api.OK {
		t.Error(err)
	}
	if a, b := v.Drop(mostInt-1), v.Hold(60000, pays(mostInt-1, 4, 1)); a != api.ErrVaultMany || b != api.ErrVaultMany {
		t.Error(a, b)
	}
	v = full(t, api.MaxFates-1)
	if err := v.Hold(60000, pays(mostInt, 4, 1)); err != api.OK {
		t.Error(err)
	}
	if a, b := v.Drop(mostInt-1), v.Hold(60001, pays(mostInt-1, 4, 1)); a != api.ErrVaultMany || b != api.ErrVaultMany {
		t.Error(a, b)
	}
	if err := v.Drop(mostInt); err != api.OK {
		t.Error(err)
	}
	if a, b := v.Drop(mostInt-1), v.Hold(60001, pays(mostInt-1, 4, 1)); a != api.ErrVaultMany || b != api.ErrVaultMany {
		t.Error(a, b)
	}
}

// P15.3: all the parts that a vault may know may be of one account: each of them happens.
func TestAllOfOneAccount(t *testing.T) {
	v := made(t, 1)
	if err := v.Open(1, 7, most); err != api.OK {
		t.Fatal(err)
	}
	for id := 1; id <= api.MaxFates; id++ {
		part := pays(id, 7, most/2)
		if id%2 == 0 {
			part = gets(id, 7, most)
		}
		if a, b := v.Hold(int64(2*id), part), v.Commit(int64(2*id+1), id); a != api.OK || b != api.OK {
			t.Fatal(id, a, b)
		}
	}
	at := int64(2*api.MaxFates + 1)
	if err := v.Close(at); err != api.OK {
		t.Fatal(err)
	}
	l, err := v.Snap(at)
	if want := most / 2 * api.MaxFates / 2; err != api.OK || len(l) != 2 || l[0] != (api.Entry{Key: 7, V: most}) || l[1] != (api.Entry{Key: 4103, V: want}) {
		t.Error(l, err, want)
	}
	for _, k := range [][2]int64{{1, most}, {2, most}, {3, 0}, {4, 0}, {5, most}, {7, 0}, {9999, 0}, {10000, 0}} {
		if n, err := v.Has(7, k[0]); n != k[1] || err != api.OK {
			t.Error(k, n, err)
		}
	}
}
