package vault

import (
	"math"
	"slices"
	"testing"

	"moiety/api"
)

const (
	most     = int64(api.MaxAmount)
	end      = int64(api.MaxTime)
	low      = int64(math.MinInt64)
	high     = int64(math.MaxInt64)
	topmost  = api.MaxAccounts - 1
	leastInt = math.MinInt
	mostInt  = math.MaxInt
	bit      = math.SmallestNonzeroFloat64
)

// noRates is floats that are no rates: those next to rates and the ends among them, and what is no number by several bits.
func noRates() []float64 {
	return []float64{
		math.NaN(), -math.NaN(), math.Float64frombits(0x7ff0000000000001), math.Float64frombits(0xfff0000000000001), math.Float64frombits(1<<64 - 1),
		math.Inf(1), math.Inf(-1), -bit, -0.01, -1, -2, -math.MaxFloat64, math.Nextafter(1, 2), 1.01, 2, math.MaxFloat64,
	}
}

// someRates is rates: both noughts, the ends and those next to them among them.
func someRates() []float64 {
	return []float64{0, math.Copysign(0, -1), bit, 1e-300, 1e-15, 1e-9, 0.001, 0.01, 0.1, 0.25, 0.5, 0.75, 0.999, math.Nextafter(1, 0), 1}
}

// noTimes is numbers that are no times: those next to times and the ends among them.
func noTimes() []int64 {
	return []int64{-1, -2, -1000, -end, end + 1, end + 2, 2 * end, 1 << 62, -1 << 62, low, low + 1, high - 1, high}
}

// noStamps is numbers that are no stamps: 0 is a time, but no stamp.
func noStamps() []int64 { return append(noTimes(), 0) }

// noAccounts is numbers that are no accounts: those next to accounts, keys of what is paid, and the ends among them.
func noAccounts() []int {
	return []int{-1, -2, -4095, -4096, 4096, 4097, 4103, 8191, 8192, 1 << 32, 1<<32 + 1, -1 << 32, leastInt, leastInt + 1, mostInt - 1, mostInt}
}

// noAmounts is numbers that are no amounts: those next to amounts and the ends among them.
func noAmounts() []int64 {
	return []int64{-1, -2, -100, -most, most + 1, most + 2, 2 * most, 1 << 62, -1 << 62, low, low + 1, high - 1, high}
}

// noParts is numbers that no part has as its amount: 0 is an amount, but none that is held.
func noParts() []int64 { return append(noAmounts(), 0) }

// noIDs is numbers that no part has as its ID.
func noIDs() []int { return []int{0, -1, -2, -5000, -1 << 32, leastInt + 1, leastInt} }

// pays is a part that pays.
func pays(id, account int, n int64) api.Part {
	return api.Part{ID: id, Account: account, N: n, Pays: true}
}

// gets is a part that gets.
func gets(id, account int, n int64) api.Part { return api.Part{ID: id, Account: account, N: n} }

// of is entries, each by its key and its V.
func of(l ...int64) []api.Entry {
	var all []api.Entry
	for k := 0; k < len(l); k += 2 {
		all = append(all, api.Entry{Key: int(l[k]), V: l[k+1]})
	}
	return all
}

// aroundAll is times just below, at and just above some, and those at both ends of all times, as far as they are times.
func aroundAll(l ...int64) []int64 {
	var all []int64
	for _, t := range append(l, 0, end) {
		for _, at := range []int64{t - 1, t, t + 1} {
			if at >= 0 && at <= end {
				all = append(all, at)
			}
		}
	}
	slices.Sort(all)
	return slices.Compact(all)
}

// made is a new vault.
func made(t *testing.T, rate float64) *Vault {
	t.Helper()
	v, err := New(rate)
	if v == nil || err != api.OK {
		t.Fatal("no vault:", rate, err)
	}
	return v
}

// pair is a vault, and a plain one that is told the same.
type pair struct {
	*testing.T
	v *Vault
	p *plain
}

// begun is a new vault, which stands as a plain one.
func begun(t *testing.T, rate float64) *pair {
	t.Helper()
	d := &pair{t, made(t, rate), newPlain(rate)}
	d.stands()
	return d
}

// having is a vault in which accounts were opened, one at each stamp from 1 on.
func having(t *testing.T, rate float64, l ...int64) *pair {
	t.Helper()
	d := begun(t, rate)
	for k, e := range of(l...) {
		d.open(int64(k+1), e.Key, e.V, api.OK)
	}
	return d
}

// someAccounts is accounts that a vault is asked for: those that were opened, those next to them, those at both ends, and numbers that are none.
func (d *pair) someAccounts() []int {
	l := append(noAccounts(), 0, topmost)
	for _, account := range d.p.accounts() {
		l = append(l, account-1, account, account+1, account+4096)
	}
	slices.Sort(l)
	return slices.Compact(l)
}

// someTimes is times that a vault is asked for: those just below, at and just above the top, the mark, the time up to which it is closed and each stamp at which something happened.
func (d *pair) someTimes() []int64 {
	l := []int64{d.p.Top(), d.p.Mark(), d.p.Closed()}
	for _, x := range d.p.done {
		l = append(l, x.t)
	}
	return aroundAll(l...)
}

// someIDs is IDs that a vault is asked for: those that are known, those next to them, those at both ends, and numbers that are none.
func (d *pair) someIDs() []int {
	l := append(noIDs(), 1, 2, mostInt-1, mostInt)
	for _, id := range d.p.known() {
		l = append(l, id-1, id, id+1)
	}
	slices.Sort(l)
	return slices.Compact(l)
}

// stands holds all that the vault tells, of all accounts and IDs that matter, at all times that do, and at numbers that are none, against what the plain one does.
func (d *pair) stands() {
	d.Helper()
	d.standsAt(append(d.someTimes(), noTimes()...)...)
}

// standsAt is the same at some times alone.
func (d *pair) standsAt(times ...int64) {
	d.Helper()
	d.tells(d.p.Top(), d.p.Closed(), d.p.Mark())
	d.held(d.p.Held()...)
	for _, id := range d.someIDs() {
		is, at := d.p.Fate(id)
		d.fate(id, is, at)
	}
	accounts := d.someAccounts()
	for _, at := range times {
		got, err := d.v.Snap(at)
		if want, wantErr := d.p.Snap(at); !slices.Equal(got, want) || err != wantErr {
			d.Errorf("Snap(%d) = %v, %d, want %v, %d", at, got, err, want, wantErr)
		}
		for _, account := range accounts {
			got, err := d.v.Has(account, at)
			if want, wantErr := d.p.Has(account, at); got != want || err != wantErr {
				d.Errorf("Has(%d, %d) = %d, %d, want %d, %d", account, at, got, err, want, wantErr)
			}
		}
	}
}

// answers holds a call's answer against what it is to be, by the test and by the plain vault, and then how the vault stands.
func (d *pair) answers(call string, err, plain, want api.Errno) {
	d.Helper()
	if err != want || plain != want {
		d.Errorf("%s = %d, want %d (by the words: %d)", call, err, want, plain)
	}
	d.stands()
}

func (d *pair) open(t int64, account int, n int64, want api.Errno) {
	d.Helper()
	d.answers("Open", d.v.Open(t, account, n), d.p.Open(t, account, n), want)
}

func (d *pair) hold(t int64, p api.Part, want api.Errno) {
	d.Helper()
	d.answers("Hold", d.v.Hold(t, p), d.p.Hold(t, p), want)
}

func (d *pair) commit(t int64, id int, want api.Errno) {
	d.Helper()
	d.answers("Commit", d.v.Commit(t, id), d.p.Commit(t, id), want)
}

func (d *pair) drop(id int, want api.Errno) {
	d.Helper()
	d.answers("Drop", d.v.Drop(id), d.p.Drop(id), want)
}

func (d *pair) close(t int64, want api.Errno) {
	d.Helper()
	d.answers("Close", d.v.Close(t), d.p.Close(t), want)
}

func (d *pair) prune(mark int64, want api.Errno) {
	d.Helper()
	d.answers("Prune", d.v.Prune(mark), d.p.Prune(mark), want)
}

// has holds what an account has at a time against what it is to have.
func (d *pair) has(account int, at, want int64) {
	d.Helper()
	if got, err := d.v.Has(account, at); got != want || err != api.OK {
		d.Errorf("Has(%d, %d) = %d, %d, want %d", account, at, got, err, want)
	}
}

// none asks for what an account has at a time of which that isn't told.
func (d *pair) none(account int, at int64, want api.Errno) {
	d.Helper()
	if got, err := d.v.Has(account, at); got != 0 || err != want {
		d.Errorf("Has(%d, %d) = %d, %d, want %d", account, at, got, err, want)
	}
}

// snap holds what all accounts have, and have paid, at a time against what they are to.
func (d *pair) snap(at int64, want ...int64) {
	d.Helper()
	if got, err := d.v.Snap(at); !slices.Equal(got, of(want...)) || err != api.OK {
		d.Errorf("Snap(%d) = %v, %d, want %v", at, got, err, of(want...))
	}
}

// noSnap asks for the same at a time of which it isn't told.
func (d *pair) noSnap(at int64, want api.Errno) {
	d.Helper()
	if got, err := d.v.Snap(at); len(got) != 0 || err != want {
		d.Errorf("Snap(%d) = %v, %d, want %d", at, got, err, want)
	}
}

// held holds all parts that are held against those that are to be.
func (d *pair) held(want ...api.Held) {
	d.Helper()
	if got := d.v.Held(); !slices.Equal(got, want) {
		d.Errorf("Held() = %v, want %v", got, want)
	}
}

// fate holds what became of a part against what is to.
func (d *pair) fate(id int, want api.Fate, at int64) {
	d.Helper()
	if got, t := d.v.Fate(id); got != want || t != at {
		d.Errorf("Fate(%d) = %d, %d, want %d, %d", id, got, t, want, at)
	}
}

// tells holds the top, the time up to which it is closed and the mark against what they are to be.
func (d *pair) tells(top, closed, mark int64) {
	d.Helper()
	if d.v.Top() != top || d.v.Closed() != closed || d.v.Mark() != mark {
		d.Errorf("Top, Closed, Mark: %d %d %d, want %d %d %d", d.v.Top(), d.v.Closed(), d.v.Mark(), top, closed, mark)
	}
}

// P15.1 to P15.5: the chapter's examples.
func TestExamples(t *testing.T) {
	d := begun(t, 0.01)
	d.open(1, 7, 1000, api.OK)
	d.hold(5, pays(1, 7, 200), api.OK)
	d.hold(6, gets(2, 7, 1), api.ErrVaultBusy)
	d.close(5, api.ErrVaultBusy)
	d.close(4, api.OK)
	d.commit(9, 1, api.OK)
	d.close(9, api.OK)
	d.has(7, 8, 1000)
	d.has(7, 9, 798)
	d.snap(9, 7, 798, 4103, 2)
	d.commit(9, 1, api.OK)
	d.commit(10, 1, api.ErrVaultTwice)
	d.drop(1, api.ErrVaultTwice)
	d.drop(3, api.OK)
	d.hold(12, pays(3, 7, 1), api.ErrVaultTwice)
}

// P15.1: a vault is of a rate, and of nothing that is none; at first no account is open, no part is known, nothing was met, closed or pruned, and of 0 it tells that there is nothing.
func TestNew(t *testing.T) {
	for _, rate := range someRates() {
		d := begun(t, rate)
		d.tells(0, 0, 0)
		d.held()
		d.snap(0)
		for _, account := range []int{0, 1, 7, 4094, 4095} {
			d.none(account, 0, api.ErrVaultNone)
			d.none(account, 1, api.ErrVaultOpen)
			d.none(account, end, api.ErrVaultOpen)
		}
		for id := -2; id < 100; id++ {
			d.fate(id, api.FateNone, 0)
		}
	}
	for _, rate := range noRates() {
		if v, err := New(rate); v != nil || err != api.ErrVaultRate {
			t.Errorf("New(%v) = %v, %d", rate, v, err)
		}
	}
}

// P15.1: an account that is opened has what it is opened with, from nothing to the greatest amount, from its stamp on, and has paid nothing; no other one is open then.
func TestOpen(t *testing.T) {
	for _, account := range []int{0, 1, 2, 2047, 4094, 4095} {
		for _, n := range []int64{0, 1, 2, 1000, most - 1, most} {
			for _, at := range []int64{1, 2, 100, end - 1, end} {
				d := begun(t, 0.01)
				d.open(at, account, n, api.OK)
				d.tells(at, 0, 0)
				d.close(at, api.OK)
				d.has(account, at, n)
				d.snap(at, int64(account), n)
				d.snap(at - 1)
				d.none(account, at-1, api.ErrVaultNone)
				for other := range api.MaxAccounts {
					if other != account {
						d.none(other, at, api.ErrVaultNone)
					}
				}
			}
		}
	}
}

// P15.1: what is no account, or no amount, opens nothing, and is no stamp that is met.
func TestOpenRefused(t *testing.T) {
	d := begun(t, 0.01)
	for _, account := range noAccounts() {
		d.open(5, account, 5, api.ErrVaultAccount)
	}
	for _, n := range noAmounts() {
		d.open(5, 5, n, api.ErrVaultAmount)
	}
	for _, at := range noStamps() {
		d.open(at, 5, 5, api.ErrVaultTime)
	}
	d.tells(0, 0, 0)
	d.open(1, 5, 1, api.OK)
	d.tells(1, 0, 0)
}

// P15.1: what is new comes above the top: not at it, nor below.
func TestOpenAboveTheTop(t *testing.T) {
	for _, top := range []int64{1, 2, 50, end - 1, end} {
		for _, at := range aroundAll(1, top-20, top) {
			if at == 0 {
				continue
			}
			d := begun(t, 0.01)
			d.open(top, 7, 5, api.OK)
			if at > top {
				d.open(at, 8, 5, api.OK)
				d.tells(at, 0, 0)
				continue
			}
			d.open(at, 8, 5, api.ErrVaultOrder)
			d.tells(top, 0, 0)
		}
	}
}

// P15.1: an account is opened once: it keeps what it had, whatever it is opened with then, also if that was nothing, and while a part of it is held.
func TestOpenTwice(t *testing.T) {
	for _, first := range []int64{0, 1, most} {
		d := having(t, 0.5, 7, first)
		for _, n := range append(noAmounts(), 0, 1, 5, most) {
			d.open(2, 7, n, api.ErrVaultThere)
		}
		d.tells(1, 0, 0)
		d.open(2, 8, 0, api.OK)
		d.hold(3, gets(1, 8, 5), api.OK)
		d.open(4, 8, 5, api.ErrVaultThere)
		d.commit(5, 1, api.OK)
		d.open(6, 8, 5, api.ErrVaultThere)
		d.close(6, api.OK)
		d.open(7, 8, 5, api.ErrVaultThere)
		d.prune(6, api.OK)
		d.open(7, 8, 5, api.ErrVaultThere)
		d.snap(6, 7, first, 8, 5)
	}
}

// P15.1, P15.4: the top is the greatest stamp that was met, by whatever call that was done.
func TestTop(t *testing.T) {
	d := begun(t, 0.5)
	for k, act := range []struct {
		do  func(at int64) api.Errno
		at  int64
		top int64
	}{
		{func(at int64) api.Errno { return d.v.Open(at, 1, 100) }, 5, 5},
		{func(at int64) api.Errno { return d.v.Open(at, 2, 100) }, 6, 6},
		{func(at int64) api.Errno { return d.v.Hold(at, pays(1, 1, 10)) }, 9, 9},
		{func(at int64) api.Errno { return d.v.Hold(at, gets(2, 2, 10)) }, 12, 12},
		{func(at int64) api.Errno { return d.v.Close(at) }, 8, 12},
		{func(at int64) api.Errno { return d.v.Commit(at, 1) }, 10, 12},
		{func(at int64) api.Errno { return d.v.Close(at) }, 11, 12},
		{func(at int64) api.Errno { return d.v.Commit(at, 2) }, 20, 20},
		{func(at int64) api.Errno { return d.v.Commit(at, 1) }, 10, 20},
		{func(at int64) api.Errno { return d.v.Commit(at, 2) }, 20, 20},
		{func(at int64) api.Errno { return d.v.Drop(int(at)) }, 1000, 20},
		{func(at int64) api.Errno { return d.v.Close(at) }, 19, 20},
		{func(at int64) api.Errno { return d.v.Close(at) }, 20, 20},
		{func(at int64) api.Errno { return d.v.Close(at) }, 30, 30},
		{func(at int64) api.Errno { return d.v.Prune(at) }, 25, 30},
		{func(at int64) api.Errno { return d.v.Close(at) }, 10, 30},
		{func(at int64) api.Errno { return d.v.Hold(at, pays(3, 1, 1)) }, 31, 31},
		{func(at int64) api.Errno { return d.v.Drop(int(at)) }, 3, 31},
		{func(at int64) api.Errno { return d.v.Close(at) }, end, end},
	} {
		if err := act.do(act.at); err != api.OK || d.v.Top() != act.top {
			t.Errorf("act %d at %d: %d, the top is %d, want %d", k, act.at, err, d.v.Top(), act.top)
		}
	}
}
