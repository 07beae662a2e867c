package vault

import (
	"cmp"
	"math/rand/v2"
	"slices"
	"testing"

	"moiety/api"
	"moiety/ledger"
)

// opening is an account that was opened at a stamp.
type opening struct {
	t       int64
	account int
	n       int64
}

// transfer is an amount that goes from one account to another: since when its sides are held (0: they aren't yet), at which stamp it is to be committed (0: that isn't known yet), and on which sides it was.
type transfer struct {
	id       int
	accounts [2]int // who pays, who gets
	n        int64
	since    [2]int64
	t        int64
	done     [2]bool
	isOff    bool // it was dropped on both sides
}

// town is some vaults with accounts, each in the vault of its number modulo theirs, and transfers between them.
type town struct {
	*testing.T
	r      *rand.Rand
	rate   float64
	vaults []*Vault
	opens  []opening
	moves  []*transfer
	refuse map[api.Errno]int
}

func newTown(t *testing.T, r *rand.Rand, n int, rate float64, base int64) *town {
	t.Helper()
	w := &town{T: t, r: r, rate: rate, refuse: map[api.Errno]int{}}
	for range n {
		v := made(t, rate)
		if err := v.Close(base); err != api.OK {
			t.Fatal(err)
		}
		w.vaults = append(w.vaults, v)
	}
	return w
}

// at is the vault in which an account is.
func (w *town) at(account int) *Vault { return w.vaults[account%len(w.vaults)] }

// side is a transfer's part of the one who pays (0), or who gets (1).
func (x *transfer) side(k int) api.Part {
	return api.Part{ID: 2*x.id - 1 + k, Account: x.accounts[k], N: x.n, Pays: k == 0}
}

// open opens some account that isn't open yet.
func (w *town) open() {
	o := opening{account: w.r.IntN(9), n: someStart(w.r)}
	if w.r.IntN(3) == 0 {
		o.n = w.r.Int64N(3000)
	}
	v := w.at(o.account)
	o.t = v.Top() + 1 + w.r.Int64N(3)
	if v.Open(o.t, o.account, o.n) == api.OK {
		w.opens = append(w.opens, o)
	}
}

// begin begins a transfer: nothing of it is held yet.
func (w *town) begin() {
	from := w.r.IntN(9)
	to := (from + 1 + w.r.IntN(8)) % 9
	n := oneOf(w.r, 1+w.r.Int64N(2000), 1+w.r.Int64N(2000), 1+w.r.Int64N(4), 1+w.r.Int64N(4), 1+w.r.Int64N(most)>>w.r.IntN(50))
	w.moves = append(w.moves, &transfer{id: len(w.moves) + 1, accounts: [2]int{from, to}, n: n})
}

// held is whether both sides are held, or were.
func (x *transfer) held() bool { return x.since[0] > 0 && x.since[1] > 0 }

// step goes one step on with a transfer: it holds a side, or commits one; if a side can't be held both are dropped.
func (w *town) step(x *transfer) {
	w.Helper()
	k := w.r.IntN(2)
	v := w.at(x.accounts[k])
	switch {
	case x.isOff:
		w.drop(x)
	case !x.held() && x.since[k] == 0:
		since := v.Top() + 1 + w.r.Int64N(3)
		err := v.Hold(since, x.side(k))
		if err != api.OK {
			w.refuse[err]++
			w.drop(x)
			return
		}
		x.since[k] = since
	case x.held():
		if x.t == 0 {
			x.t = max(x.since[0], x.since[1]) + w.r.Int64N(4)
		}
		if err := v.Commit(x.t, x.side(k).ID); err != api.OK {
			w.Fatal(x, k, err)
		}
		x.done[k] = true
	}
}

// drop drops both sides of a transfer, of which none was committed.
func (w *town) drop(x *transfer) {
	w.Helper()
	for k := range 2 {
		if err := w.at(x.accounts[k]).Drop(x.side(k).ID); err != api.OK {
			w.Fatal(x, k, err)
		}
	}
	x.isOff = true
}

// close closes some vault up to some time ahead of all that is held in it.
func (w *town) close() {
	w.Helper()
	v := oneOf(w.r, w.vaults...)
	at := v.Top()
	for _, h := range v.Held() {
		at = min(at, h.T-1)
	}
	at -= w.r.Int64N(3)
	if err := v.Close(max(at, 0)); err != api.OK {
		w.Fatal(at, err)
	}
}

// finish commits what is to be committed on the sides on which it isn't, and drops the rest.
func (w *town) finish() {
	w.Helper()
	for _, x := range w.moves {
		for x.t > 0 && !(x.done[0] && x.done[1]) {
			w.step(x)
		}
		if x.t == 0 {
			w.drop(x)
		}
	}
}

// committed is the transfers that were committed, by rising stamps.
func (w *town) committed() []*transfer {
	var l []*transfer
	for _, x := range w.moves {
		if x.t > 0 {
			l = append(l, x)
		}
	}
	slices.SortStableFunc(l, func(x, y *transfer) int { return cmp.Compare(x.t, y.t) })
	return l
}

// book is a book in which all was opened, and moved by rising stamps, that counts at a time.
func (w *town) book(at int64) *ledger.Book {
	w.Helper()
	b, _ := ledger.New(w.rate)
	for _, o := range w.opens {
		if o.t <= at {
			if err := b.Open(o.account, o.n); err != api.OK {
				w.Fatal(o, err)
			}
		}
	}
	for _, x := range w.committed() {
		if x.t <= at {
			if _, err := b.Move(x.accounts[0], x.accounts[1], x.n); err != api.OK {
				w.Fatalf("%v: a book answers %d", x, err)
			}
		}
	}
	return b
}

// snap is what all vaults tell of a time: of one alone as it is told, of more by rising keys.
func (w *town) snap(at int64) []api.Entry {
	w.Helper()
	var all []api.Entry
	for _, v := range w.vaults {
		l, err := v.Snap(at)
		if err != api.OK {
			w.Fatal(at, err)
		}
		all = append(all, l...)
	}
	if len(w.vaults) > 1 {
		slices.SortFunc(all, func(x, y api.Entry) int { return cmp.Compare(x.Key, y.Key) })
	}
	return all
}

// kinds is how many transfers were committed that were charged, and that weren't.
func (w *town) kinds() (k kindsOfMoves) {
	paid := map[int]int64{}
	p := newPlain(w.rate)
	for _, x := range w.committed() {
		charge := p.fee(x.n)
		k.count(charge, paid[x.accounts[0]])
		paid[x.accounts[0]] += charge
	}
	return k
}

// checkAt holds what all vaults tell of a time against a book: all entries, each account, and what they come to.
func (w *town) checkAt(at int64) {
	w.Helper()
	b, l := w.book(at), w.snap(at)
	if want := b.List(); !slices.Equal(l, want) {
		w.Fatalf("at %d: %v, want %v", at, l, want)
	}
	var sum, opened int64
	for _, e := range l {
		sum += e.V
	}
	for _, o := range w.opens {
		if o.t <= at {
			opened += o.n
		}
	}
	if sum != opened {
		w.Fatalf("at %d: %d, opened with %d", at, sum, opened)
	}
	for account := range 10 {
		n, err := w.at(account).Has(account, at)
		want, isOpen := b.Has(account)
		if n != want || isOpen != (err == api.OK) || !isOpen && err != api.ErrVaultNone {
			w.Fatalf("Has(%d, %d) = %d, %d, want %d, %v", account, at, n, err, want, isOpen)
		}
	}
}

// P15.6: parts of transfers that are held on both sides, of one vault or of two, and then committed at one stamp, one behind the other, while others are held and committed, come at each time to what the moves of one book come to, by rising stamps.
func TestTransfersAreABooksMoves(t *testing.T) {
	r := rand.New(rand.NewPCG(15, 5))
	moved, across, atOnce := 0, 0, 0
	refuse := map[api.Errno]int{}
	var all kindsOfMoves
	for round := range 270 {
		base := bases()[round%len(bases())]
		w := newTown(t, r, 1+round%3, someRates()[round%len(someRates())], base)
		for range 12 {
			w.open()
		}
		for range 160 {
			live := slices.DeleteFunc(slices.Clone(w.moves), func(x *transfer) bool { return x.done[0] && x.done[1] || x.isOff && r.IntN(20) > 0 })
			if slices.ContainsFunc(w.vaults, func(v *Vault) bool { return v.Top() > end-10 }) {
				break
			}
			switch n := r.IntN(20); {
			case n == 0:
				w.open()
			case n == 1:
				w.close()
			case n < 5 || len(live) == 0:
				w.begin()
			default:
				w.step(oneOf(r, live...))
			}
			atOnce = max(atOnce, len(live))
		}
		w.finish()
		times := []int64{0, base, end}
		for _, v := range w.vaults {
			if err := v.Close(end); err != api.OK {
				t.Fatal(err)
			}
		}
		for _, x := range w.committed() {
			times = append(times, x.t-1, x.t)
			moved++
			if x.accounts[0]%len(w.vaults) != x.accounts[1]%len(w.vaults) {
				across++
			}
		}
		for _, at := range times {
			w.checkAt(at)
		}
		for err, n := range w.refuse {
			refuse[err] += n
		}
		all.add(w.kinds())
	}
	if all.charged < 200 || all.never < 200 || all.notNow < 80 {
		t.Error("too few", all)
	}
	if moved < 500 || across < 250 || atOnce < 8 || refuse[api.ErrVaultShort] < 50 || refuse[api.ErrVaultFull] < 50 || refuse[api.ErrVaultBusy] < 50 || refuse[api.ErrVaultNone] < 50 {
		t.Error("too few", moved, across, atOnce, refuse)
	}
}

// P15.6: the chapters' example in two vaults: what moves between them is at both ends, or at none, at each time.
func TestTransferOfTwoVaults(t *testing.T) {
	a, b := having(t, 0.01, 7, 1000), having(t, 0.01, 8, 0)
	a.hold(5, pays(1, 7, 200), api.OK)
	b.hold(8, gets(2, 8, 200), api.OK)
	a.commit(9, 1, api.OK)
	b.close(7, api.OK)
	b.close(8, api.ErrVaultBusy) // so that nobody is told of 9 what account 8 hasn't got yet
	b.commit(9, 2, api.OK)
	for _, d := range []*pair{a, b} {
		d.close(20, api.OK)
	}
	a.snap(8, 7, 1000)
	b.snap(8, 8, 0)
	a.snap(9, 7, 798, 4103, 2)
	b.snap(9, 8, 200)
}
