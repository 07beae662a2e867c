package pledge

import (
	"math"
	"slices"
	"testing"

	"moiety/api"
)

const (
	most     = int64(api.MaxAmount)
	end      = int64(api.MaxTime)
	low      = int64(math.MinInt64)
	high     = int64(math.MaxInt64)
	topmost  = api.MaxAccounts - 1
	last     = api.MaxTransfer
	leastInt = math.MinInt
	mostInt  = math.MaxInt

	pays = true
	gets = false
	yes  = true
	no   = false
)

// noIDs is numbers that no transfer has as its ID: those next to IDs and the ends among them.
func noIDs() []int {
	return []int{0, -1, -2, -7, -last, last + 1, last + 2, 2*last - 1, 2 * last, 1 << 32, 1<<32 + 7, -1<<32 + 7, leastInt, leastInt + 1, mostInt - 1, mostInt}
}

// noAccounts is numbers that are no accounts: those next to accounts, keys of what is paid, and the ends among them.
func noAccounts() []int {
	return []int{-1, -2, -4095, -4096, 4096, 4097, 4103, 8191, 8192, 1 << 32, 1<<32 + 1, -1 << 32, leastInt, leastInt + 1, mostInt - 1, mostInt}
}

// noAmounts is numbers that no transfer has as its amount: 0, those next to amounts and the ends among them.
func noAmounts() []int64 {
	return []int64{0, -1, -2, -200, -most, most + 1, most + 2, 2 * most, 1 << 62, -1 << 62, low, low + 1, high - 1, high}
}

// noStamps is numbers that are no stamps: 0 is a time, but no stamp.
func noStamps() []int64 {
	return []int64{0, -1, -2, -5, -end, end + 1, end + 2, 2 * end, 1 << 62, -1 << 62, low, low + 1, high - 1, high}
}

// someStamps is stamps, those at both ends among them.
func someStamps() []int64 { return []int64{1, 2, 5, 8, 1 << 32, end - 1, end} }

// usual is the transfer of the chapter's examples.
func usual() api.Transfer { return api.Transfer{ID: 7, From: 1, To: 2, N: 200} }

// made is a new pledge.
func made(t *testing.T, x api.Transfer) *Pledge {
	t.Helper()
	p, err := New(x)
	if p == nil || err != api.OK {
		t.Fatal("no pledge:", x, err)
	}
	return p
}

// pair is a pledge, and a plain one that is told the same.
type pair struct {
	*testing.T
	p *Pledge
	w *plain
}

// begun is a new pledge of the usual transfer, which stands as a plain one.
func begun(t *testing.T) *pair {
	t.Helper()
	d := &pair{t, made(t, usual()), newPlain(usual())}
	d.stands()
	return d
}

// voted is a pledge of which both sides said yes.
func voted(t *testing.T, payer, payee int64) *pair {
	t.Helper()
	d := begun(t)
	d.vote(pays, yes, payer, api.OK)
	d.vote(gets, yes, payee, api.OK)
	return d
}

// committed is a pledge of which both sides said yes, at 5 and at 8, and that is committed at a stamp.
func committed(t *testing.T, at int64) *pair {
	t.Helper()
	d := voted(t, 5, 8)
	d.commit(at, api.OK)
	return d
}

// dropped is a pledge that is dropped ahead of anybody's vote.
func dropped(t *testing.T) *pair {
	t.Helper()
	d := begun(t)
	d.abort(api.OK)
	return d
}

// stands holds all that the pledge tells against what the plain one does.
func (d *pair) stands() {
	d.Helper()
	if got, want := told(d.p), told(d.w); !got.like(want) {
		d.Errorf("it tells %v, by the words: %v", got, want)
	}
}

// answers holds a call's answer against what it is to be, by the test and by the plain pledge, and then how the pledge stands.
func (d *pair) answers(call string, err, plain, want api.Errno) {
	d.Helper()
	if err != want || plain != want {
		d.Errorf("%s = %d, want %d (by the words: %d)", call, err, want, plain)
	}
	d.stands()
}

func (d *pair) vote(pays, yes bool, t int64, want api.Errno) {
	d.Helper()
	d.answers("Vote", d.p.Vote(pays, yes, t), d.w.Vote(pays, yes, t), want)
}

func (d *pair) commit(t int64, want api.Errno) {
	d.Helper()
	d.answers("Commit", d.p.Commit(t), d.w.Commit(t), want)
}

func (d *pair) abort(want api.Errno) {
	d.Helper()
	d.answers("Abort", d.p.Abort(), d.w.Abort(), want)
}

func (d *pair) ack(pays bool, want api.Errno) {
	d.Helper()
	d.answers("Ack", d.p.Ack(pays), d.w.Ack(pays), want)
}

// fate holds what is to become of it, and when, against what it is to be.
func (d *pair) fate(is api.Fate, at int64) {
	d.Helper()
	if got, when := d.p.Fate(); got != is || when != at {
		d.Errorf("Fate() = %d, %d, want %d, %d", got, when, is, at)
	}
}

// ready holds the stamp from which on it may be committed against what it is to be.
func (d *pair) ready(want int64) {
	d.Helper()
	if got, ok := d.p.Ready(); got != want || !ok {
		d.Errorf("Ready() = %d, %v, want %d", got, ok, want)
	}
}

// notReady holds that it can't be committed.
func (d *pair) notReady() {
	d.Helper()
	if got, ok := d.p.Ready(); got != 0 || ok {
		d.Errorf("Ready() = %d, %v, want 0, false", got, ok)
	}
}

// left holds the sides that are left against those that are to be.
func (d *pair) left(want ...bool) {
	d.Helper()
	if got := d.p.Left(); !slices.Equal(got, want) {
		d.Errorf("Left() = %v, want %v", got, want)
	}
}

// P16.1 to P16.4: the chapter's examples.
func TestExamples(t *testing.T) {
	d := begun(t)
	if part := d.p.Part(pays); part != (api.Part{ID: 13, Account: 1, N: 200, Pays: true}) {
		t.Error(part)
	}
	if part := d.p.Part(gets); part != (api.Part{ID: 14, Account: 2, N: 200}) {
		t.Error(part)
	}
	d.left(true, false)
	d.vote(pays, yes, 5, api.OK)
	d.left(false)
	d.vote(gets, yes, 8, api.OK)
	d.ready(8)
	d.commit(7, api.ErrPledgeOrder)
	d.commit(9, api.OK)
	d.abort(api.ErrPledgeFate)
	d.left(true, false)
	d.ack(pays, api.OK)
	d.left(false)
}

// P16.1: of a new pledge nobody said anything, and nothing is decided.
func TestNew(t *testing.T) {
	for _, id := range []int{1, 2, 7, 4096, last - 1, last} {
		for _, accounts := range [][2]int{{0, 1}, {1, 0}, {0, topmost}, {topmost, 0}, {topmost, topmost - 1}, {1, 2}} {
			for _, n := range []int64{1, 2, 200, most - 1, most} {
				x := api.Transfer{ID: id, From: accounts[0], To: accounts[1], N: n}
				d := &pair{t, made(t, x), newPlain(x)}
				d.stands()
				d.fate(api.FateNone, 0)
				d.notReady()
				d.left(true, false)
				if got := d.p.Transfer(); got != x {
					t.Errorf("Transfer() = %v, want %v", got, x)
				}
			}
		}
	}
}

// P16.1: a side's part has an ID by the transfer's, its side's account, and the transfer's amount.
func TestParts(t *testing.T) {
	for _, k := range []struct {
		x           api.Transfer
		payer, gets api.Part
	}{
		{api.Transfer{ID: 1, From: 0, To: topmost, N: 1}, api.Part{ID: 1, Account: 0, N: 1, Pays: true}, api.Part{ID: 2, Account: 4095, N: 1}},
		{api.Transfer{ID: 2, From: topmost, To: 0, N: most}, api.Part{ID: 3, Account: 4095, N: 1000000000000000, Pays: true}, api.Part{ID: 4, Account: 0, N: 1000000000000000}},
		{api.Transfer{ID: last - 1, From: 9, To: 8, N: 3}, api.Part{ID: 1999997, Account: 9, N: 3, Pays: true}, api.Part{ID: 1999998, Account: 8, N: 3}},
		{api.Transfer{ID: last, From: 8, To: 9, N: 3}, api.Part{ID: 1999999, Account: 8, N: 3, Pays: true}, api.Part{ID: 2000000, Account: 9, N: 3}},
	} {
		p := made(t, k.x)
		if got := p.Part(pays); got != k.payer {
			t.Errorf("of %v: %v, want %v", k.x, got, k.payer)
		}
		if got := p.Part(gets); got != k.gets {
			t.Errorf("of %v: %v, want %v", k.x, got, k.gets)
		}
	}
}

// P16.1: no two parts of any transfers have the same ID, and a transfer's is half of its parts', upwards.
func TestPartsAreTheirTransfers(t *testing.T) {
	had, asked := map[int]bool{}, 0
	for id := 1; id <= last; id++ {
		if id == 1500 {
			id = last - 1500
		}
		p := made(t, api.Transfer{ID: id, From: 1, To: 2, N: 1})
		for _, side := range sides() {
			part := p.Part(side)
			if (part.ID+1)/2 != id || part.Pays != side || (part.ID%2 == 1) != side {
				t.Error(id, part)
			}
			had[part.ID] = true
			asked++
		}
	}
	if len(had) != asked || asked < 6000 {
		t.Error(len(had), asked)
	}
}

// refused asks for a pledge of which there is none.
func refused(t *testing.T, x api.Transfer, want api.Errno) {
	t.Helper()
	if p, err := New(x); p != nil || err != want {
		t.Errorf("New(%v) = %v, %d, want %d", x, p, err, want)
	}
	if isWrong(x) != want {
		t.Errorf("New(%v), by the words: %d, want %d", x, isWrong(x), want)
	}
}

// P16.1: what is no ID, no account, on either side or on both, the same account, and what is no amount above 0, make no pledge.
func TestNewRefused(t *testing.T) {
	for _, id := range noIDs() {
		refused(t, api.Transfer{ID: id, From: 1, To: 2, N: 200}, api.ErrPledgeID)
	}
	for _, account := range noAccounts() {
		refused(t, api.Transfer{ID: 7, From: account, To: 2, N: 200}, api.ErrPledgeAccount)
		refused(t, api.Transfer{ID: 7, From: 1, To: account, N: 200}, api.ErrPledgeAccount)
		refused(t, api.Transfer{ID: 7, From: account, To: account, N: 200}, api.ErrPledgeAccount)
	}
	for _, account := range []int{0, 1, 2, 4094, 4095} {
		refused(t, api.Transfer{ID: 7, From: account, To: account, N: 200}, api.ErrPledgeSelf)
	}
	for _, n := range noAmounts() {
		refused(t, api.Transfer{ID: 7, From: 1, To: 2, N: n}, api.ErrPledgeAmount)
	}
	refused(t, api.Transfer{}, api.ErrPledgeID)
}

// P16.1: of what is wrong the first is told: the ID, the accounts, that they are the same, the amount.
func TestNewRefusedInOrder(t *testing.T) {
	ids, accounts, amounts := append(noIDs(), 1, 7, last), append(noAccounts(), 0, 2, topmost), append(noAmounts(), 1, 200, most)
	count := map[api.Errno]int{}
	for _, id := range ids {
		for _, from := range accounts {
			for _, to := range accounts {
				for _, n := range amounts {
					x := api.Transfer{ID: id, From: from, To: to, N: n}
					want := isWrong(x)
					if p, err := New(x); err != want || (p != nil) != (want == api.OK) {
						t.Fatalf("New(%v) = %v, %d, want %d", x, p, err, want)
					}
					count[want]++
				}
			}
		}
	}
	for _, err := range []api.Errno{api.OK, api.ErrPledgeID, api.ErrPledgeAccount, api.ErrPledgeSelf, api.ErrPledgeAmount} {
		if count[err] < 50 {
			t.Error("too few of", err, count)
		}
	}
	for _, n := range []int64{0, -1, most + 1, low, high} {
		refused(t, api.Transfer{ID: 0, From: -1, To: -1, N: n}, api.ErrPledgeID)
		refused(t, api.Transfer{ID: 0, From: 1, To: 1, N: n}, api.ErrPledgeID)
		refused(t, api.Transfer{ID: 7, From: -1, To: -1, N: n}, api.ErrPledgeAccount)
		refused(t, api.Transfer{ID: 7, From: 4096, To: 1, N: n}, api.ErrPledgeAccount)
		refused(t, api.Transfer{ID: 7, From: 1, To: 1, N: n}, api.ErrPledgeSelf)
	}
}
