package vault

import (
	"math/rand/v2"
	"slices"
	"testing"

	"moiety/api"
)

// player is what both a vault and a plain one can be asked.
type player interface {
	Open(t int64, account int, n int64) api.Errno
	Hold(t int64, p api.Part) api.Errno
	Commit(t int64, id int) api.Errno
	Drop(id int) api.Errno
	Close(t int64) api.Errno
	Prune(mark int64) api.Errno
	Has(account int, at int64) (int64, api.Errno)
	Snap(at int64) ([]api.Entry, api.Errno)
	Held() []api.Held
	Fate(id int) (api.Fate, int64)
	Top() int64
	Closed() int64
	Mark() int64
}

// The kinds of calls.
const (
	kindOpen = iota
	kindHold
	kindCommit
	kindDrop
	kindClose
	kindPrune
	kindHas
	kindSnap
	kindHeld
	kindFate
	kinds
)

// call is one call of any kind, by a time, and by as much of a part as it asks for.
type call struct {
	kind int
	at   int64
	p    api.Part
}

// said is what a call answers, and what the vault tells of itself behind it.
type said struct {
	n                 int64
	l                 []api.Entry
	held              []api.Held
	fate              api.Fate
	err               api.Errno
	top, closed, mark int64
}

func (k call) ask(v player) (x said) {
	switch k.kind {
	case kindOpen:
		x.err = v.Open(k.at, k.p.Account, k.p.N)
	case kindHold:
		x.err = v.Hold(k.at, k.p)
	case kindCommit:
		x.err = v.Commit(k.at, k.p.ID)
	case kindDrop:
		x.err = v.Drop(k.p.ID)
	case kindClose:
		x.err = v.Close(k.at)
	case kindPrune:
		x.err = v.Prune(k.at)
	case kindHas:
		x.n, x.err = v.Has(k.p.Account, k.at)
	case kindSnap:
		x.l, x.err = v.Snap(k.at)
	case kindHeld:
		x.held = v.Held()
	case kindFate:
		x.fate, x.n = v.Fate(k.p.ID)
	}
	x.top, x.closed, x.mark = v.Top(), v.Closed(), v.Mark()
	return x
}

// like is whether two calls were answered alike.
func (x said) like(y said) bool {
	return x.n == y.n && slices.Equal(x.l, y.l) && slices.Equal(x.held, y.held) && x.fate == y.fate && x.err == y.err && x.top == y.top && x.closed == y.closed && x.mark == y.mark
}

// isBare is whether all else is nought beside an error.
func (x said) isBare() bool { return x.err == api.OK || x.n == 0 && len(x.l) == 0 }

// oneOf is one of some, by chance.
func oneOf[T any](r *rand.Rand, l ...T) T { return l[r.IntN(len(l))] }

// someAccount is one of few accounts, for the most part, so that they meet each other.
func someAccount(r *rand.Rand) int {
	switch r.IntN(60) {
	case 0:
		return oneOf(r, noAccounts()...)
	case 1:
		return oneOf(r, 0, topmost, topmost-1)
	}
	return 3 * r.IntN(7)
}

// someAmount is a number of any size, those at both ends of amounts and what is none among them.
func someAmount(r *rand.Rand) int64 {
	switch r.IntN(20) {
	case 0:
		return oneOf(r, noAmounts()...)
	case 1, 2:
		return oneOf(r, 0, 1, most-1, most)
	}
	return r.Int64N(most+1) >> r.IntN(51)
}

// someID is the ID of a part that is held, or of any that may be known, or of one that may not.
func someID(r *rand.Rand, v player) int {
	if l := v.Held(); len(l) > 0 && r.IntN(3) > 0 {
		return l[r.IntN(len(l))].Part.ID
	}
	if r.IntN(12) == 0 {
		return oneOf(r, append(noIDs(), mostInt)...)
	}
	return 1 + r.IntN(150)
}

// isKnown is whether a part's fate is known.
func isKnown(v player, id int) bool {
	is, _ := v.Fate(id)
	return is != api.FateNone
}

// newID is an ID that isn't known, for the most part.
func newID(r *rand.Rand, v player) int {
	id := someID(r, v)
	for tries := 0; tries < 20 && isKnown(v, id); tries++ {
		id = someID(r, v)
	}
	return id
}

// someTime is a number near a time, or one at an end, or one that is no time.
func someTime(r *rand.Rand, near int64) int64 {
	switch r.IntN(40) {
	case 0:
		return oneOf(r, noTimes()...)
	case 1:
		return oneOf(r, 0, 1, end-1)
	}
	return near + r.Int64N(9) - 3
}

// someNow is a stamp at which something new may come, for the most part: a little above the top.
func someNow(r *rand.Rand, v player) int64 {
	if r.IntN(8) == 0 {
		return someTime(r, v.Top())
	}
	return v.Top() + 1 + r.Int64N(3)
}

// now is what an account has, as far as it is told.
func now(v player, account int) int64 {
	n, _ := v.Has(account, v.Closed())
	return n
}

// someCall is any call: one that may be done, for the most part.
func someCall(r *rand.Rand, v player) call {
	k := call{kind: oneOf(r, kindOpen, kindHold, kindHold, kindHold, kindHold, kindCommit, kindCommit, kindCommit, kindDrop, kindClose, kindClose, kindPrune, kindHas, kindSnap, kindHeld, kindFate)}
	k.p = api.Part{ID: someID(r, v), Account: someAccount(r), N: someAmount(r), Pays: r.IntN(2) == 0}
	switch k.kind {
	case kindOpen:
		k.at = someNow(r, v)
	case kindHold:
		k.at = someNow(r, v)
		if r.IntN(10) > 0 {
			k.p.ID = newID(r, v)
		}
		has := now(v, k.p.Account)
		k.p.N = oneOf(r, k.p.N, k.p.N, has/2+r.Int64N(4), has+r.Int64N(4), most-has+r.Int64N(4)-1)
	case kindCommit:
		is, since := v.Fate(k.p.ID)
		k.at = oneOf(r, since, since, since+1, v.Top(), v.Top()+1, someTime(r, v.Top()), since+r.Int64N(6))
		if is == api.FateCommitted && r.IntN(2) == 0 {
			k.at = since
		}
		if is == api.FateNone && r.IntN(2) == 0 {
			k.at = someNow(r, v)
		}
	case kindClose:
		k.at = someTime(r, v.Top()-5)
		if l := v.Held(); len(l) > 0 && r.IntN(2) == 0 {
			k.at = l[r.IntN(len(l))].T - int64(r.IntN(3))
		}
	case kindPrune:
		k.at = someTime(r, oneOf(r, v.Closed()-10, v.Closed()))
	case kindHas, kindSnap:
		k.at = someTime(r, oneOf(r, v.Top()-4, v.Closed(), v.Mark()))
	}
	return k
}

// someStart is what an account is opened with: anything, and as often as not nearly the greatest amount.
func someStart(r *rand.Rand) int64 {
	if r.IntN(2) == 0 {
		return most - r.Int64N(1000)
	}
	return max(0, min(most, someAmount(r)))
}

// bases is times from which plays begin: at both ends of all times and between.
func bases() []int64 { return []int64{0, 0, 100, 1 << 40, end - 300, end - 60} }

// P15.1 to P15.5: any calls, right and wrong ones, of two vaults side by side by any rates, are answered as the chapter's words have it, and what was asked of one changes nothing in the other.
func TestAnyCalls(t *testing.T) {
	r := rand.New(rand.NewPCG(15, 1))
	errs := map[int]map[api.Errno]int{}
	for kind := range kinds {
		errs[kind] = map[api.Errno]int{}
	}
	for round := range 240 {
		rates := someRates()
		d := []*pair{begun(t, rates[round%len(rates)]), begun(t, oneOf(r, rates...))}
		base := bases()[round%len(bases())]
		for _, x := range d {
			x.close(base, api.OK)
			for k := range int64(5) {
				x.open(base+1+k, int(3*k), someStart(r), api.OK)
			}
		}
		for range 160 {
			x := d[r.IntN(2)]
			k := someCall(r, x.p)
			got, want := k.ask(x.v), k.ask(x.p)
			if !got.like(want) {
				t.Fatalf("%v: %v, want %v", k, got, want)
			}
			errs[k.kind][got.err]++
		}
		d[0].stands()
		d[1].stands()
	}
	for kind, want := range map[int][]api.Errno{
		kindOpen:   {api.OK, api.ErrVaultTime, api.ErrVaultOrder, api.ErrVaultAccount, api.ErrVaultThere, api.ErrVaultAmount},
		kindHold:   {api.OK, api.ErrVaultTime, api.ErrVaultOrder, api.ErrVaultID, api.ErrVaultTwice, api.ErrVaultAccount, api.ErrVaultAmount, api.ErrVaultNone, api.ErrVaultBusy, api.ErrVaultShort, api.ErrVaultFull},
		kindCommit: {api.OK, api.ErrVaultTime, api.ErrVaultHold, api.ErrVaultTwice, api.ErrVaultOrder},
		kindDrop:   {api.OK, api.ErrVaultID, api.ErrVaultTwice},
		kindClose:  {api.OK, api.ErrVaultTime, api.ErrVaultBusy},
		kindPrune:  {api.OK, api.ErrVaultTime, api.ErrVaultOpen},
		kindHas:    {api.OK, api.ErrVaultAccount, api.ErrVaultTime, api.ErrVaultOpen, api.ErrVaultOld, api.ErrVaultNone},
		kindSnap:   {api.OK, api.ErrVaultTime, api.ErrVaultOpen, api.ErrVaultOld},
	} {
		for _, err := range want {
			if errs[kind][err] < 10 {
				t.Error("too few of", kind, err, errs[kind])
			}
		}
	}
}
