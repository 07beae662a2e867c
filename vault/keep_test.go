package vault

import (
	"math/rand/v2"
	"slices"
	"testing"

	"moiety/api"
)

// toldAccounts is the accounts that are asked for one by one.
func toldAccounts() []int { return []int{0, 3, 6, 9, 12, 15, 18, 1, topmost} }

// tell is what a vault tells of a time up to which it is closed, and that isn't ahead of its mark.
func tell(v *Vault, at int64) []said {
	l := []said{call{kind: kindSnap, at: at}.ask(v)}
	for _, account := range toldAccounts() {
		l = append(l, call{kind: kindHas, at: at, p: api.Part{Account: account}}.ask(v))
	}
	for k := range l {
		l[k].top, l[k].closed, l[k].mark = 0, 0, 0 // these may change
	}
	return l
}

// notes is what was told of times once.
type notes map[int64][]said

// check holds what is told now of all times that were told of against what was told then, or against nothing, if it was pruned away; how many these were.
func (n notes) check(t *testing.T, v *Vault, behind call) (same, old int) {
	t.Helper()
	for at, was := range n {
		got := tell(v, at)
		if at >= v.Mark() {
			same++
			if !slices.EqualFunc(got, was, said.like) {
				t.Fatalf("behind %v: of %d %v was told, now %v", behind, at, was, got)
			}
			continue
		}
		old++
		for _, x := range got {
			if !x.like(said{err: api.ErrVaultOld}) {
				t.Fatalf("behind %v: of %d %v is told, and the mark is %d", behind, at, x, v.Mark())
			}
		}
	}
	return same, old
}

// note notes what is told of times from one to another one, as far as it is told.
func (n notes) note(v *Vault, from, to int64) {
	for at := max(from, v.Mark()); at <= min(to, v.Closed()); at++ {
		n[at] = tell(v, at)
	}
}

// P15.6: in plays of any calls, at both ends of all times and between, what was told of a time that is closed is told the same behind all that comes later, till it is pruned away.
func TestWhatWasToldStays(t *testing.T) {
	r := rand.New(rand.NewPCG(15, 2))
	same, old := 0, 0
	for round := range 60 {
		base := bases()[round%len(bases())]
		v, n := made(t, oneOf(r, someRates()...)), notes{}
		opened(t, r, v, base)
		for range 120 {
			k := someCall(r, v)
			if k.kind == kindClose && k.at > v.Top()+50 {
				k.at = v.Top()
			}
			k.ask(v)
			nSame, nOld := n.check(t, v, k)
			same, old = same+nSame, old+nOld
			n.note(v, base, base+400)
		}
	}
	if same < 40000 || old < 25000 {
		t.Error("too few", same, old)
	}
}

// opened closes a vault up to a time, and opens some accounts behind that.
func opened(t *testing.T, r *rand.Rand, v *Vault, base int64) {
	t.Helper()
	errs := []api.Errno{v.Close(base)}
	for k := range int64(5) {
		errs = append(errs, v.Open(base+1+k, int(3*k), someStart(r)))
	}
	for _, err := range errs {
		if err != api.OK {
			t.Fatal(base, err)
		}
	}
}

// one is what became of a part, and when.
type one struct {
	is api.Fate
	at int64
}

// mayFollow is whether a fate may follow another one: what isn't known may come to anything but happen; what is held stays so since when it was, or ends; what ended stays.
func (was one) mayFollow(is one) bool {
	switch was.is {
	case api.FateNone:
		return is.is != api.FateCommitted
	case api.FateHeld:
		return is.is == api.FateDropped || is.is == api.FateCommitted && is.at >= was.at || is == was
	}
	return is == was
}

// P15.6: in plays of any calls a part has one fate, and keeps it: what was committed is never dropped, nor committed at another stamp, and what was dropped is never committed, nor held.
func TestOneFate(t *testing.T) {
	r := rand.New(rand.NewPCG(15, 3))
	ends := map[api.Fate]int{}
	for round := range 100 {
		base := bases()[round%len(bases())]
		v, was := made(t, oneOf(r, someRates()...)), [200]one{}
		opened(t, r, v, base)
		for range 200 {
			k := someCall(r, v)
			x := k.ask(v)
			for id := range was {
				is := one{}
				is.is, is.at = v.Fate(id)
				if !was[id].mayFollow(is) || was[id] != is && (id != k.p.ID || x.err != api.OK) || is.is != api.FateHeld && is.is != api.FateCommitted && is.at != 0 {
					t.Fatalf("behind %v: the part %d was %v, is %v", k, id, was[id], is)
				}
				was[id] = is
			}
		}
		for _, is := range was {
			ends[is.is]++
		}
	}
	if ends[api.FateCommitted] < 400 || ends[api.FateDropped] < 400 || ends[api.FateHeld] < 50 {
		t.Error("too few", ends)
	}
}

// P15.6, P15.3: in plays of any calls what an account has, at the end, is what it was opened with and all that happened to it: of what isn't committed nothing happened.
func TestOnlyWhatWasCommittedHappens(t *testing.T) {
	r := rand.New(rand.NewPCG(15, 4))
	paid := 0
	for round := range 100 {
		base := bases()[round%len(bases())]
		d := &pair{t, made(t, oneOf(r, someRates()...)), nil}
		d.p = newPlain(d.v.rate)
		has := map[int]int64{}
		parts := map[int]api.Held{}
		for range 200 {
			k := someCall(r, d.v)
			if k.kind == kindClose {
				k.at = min(k.at, base+1000)
			}
			x := k.ask(d.v)
			if x.err != api.OK {
				continue
			}
			switch k.kind {
			case kindOpen:
				has[k.p.Account] += k.p.N
			case kindHold:
				parts[k.p.ID] = api.Held{Part: k.p}
				if k.p.Pays {
					parts[k.p.ID] = api.Held{Part: k.p, Fee: d.p.fee(k.p.N)}
				}
			case kindCommit:
				h := parts[k.p.ID]
				delete(parts, k.p.ID) // so that it counts once
				if h.Part.Pays {
					has[h.Part.Account] -= h.Part.N + h.Fee
					has[4096+h.Part.Account] += h.Fee
				} else {
					has[h.Part.Account] += h.Part.N
				}
			}
		}
		for _, h := range d.v.Held() {
			if err := d.v.Drop(h.Part.ID); err != api.OK {
				t.Fatal(h, err)
			}
		}
		if err := d.v.Close(end); err != api.OK {
			t.Fatal(err)
		}
		l, _ := d.v.Snap(end)
		for _, e := range l {
			if e.V != has[e.Key] || e.V < 0 || e.Key < 4096 && e.V > most {
				t.Errorf("%v, want %d", e, has[e.Key])
			}
			if e.Key >= 4096 && e.V > 0 {
				paid++
			}
			delete(has, e.Key)
		}
		for key, n := range has {
			if n != 0 {
				t.Error("lost:", key, n)
			}
		}
	}
	if paid < 50 {
		t.Error("too few paid:", paid)
	}
}
