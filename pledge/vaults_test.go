package pledge

import (
	"math/rand/v2"
	"testing"

	"moiety/api"
	"moiety/vault"
)

// shards is two vaults, of which each has one account, and that are told of transfers between them by pledges alone.
type shards struct {
	*testing.T
	v   [2]*vault.Vault
	sum int64
}

// opened is two vaults without a charge, in which account 0 and account 1 have some amounts.
func opened(t *testing.T, l [2]int64) *shards {
	t.Helper()
	s := &shards{T: t, sum: l[0] + l[1]}
	for k, n := range l {
		v, err := vault.New(0)
		if err != api.OK {
			t.Fatal(err)
		}
		if err := v.Open(1, k, n); err != api.OK {
			t.Fatal(k, n, err)
		}
		s.v[k] = v
	}
	return s
}

// asks asks a side to hold its part, and tells the pledge what it says.
func (s *shards) asks(p *Pledge, side bool, later int64) {
	s.Helper()
	part := p.Part(side)
	v := s.v[part.Account]
	at := v.Top() + later
	isHeld := v.Hold(at, part) == api.OK
	if err := p.Vote(side, isHeld, at); err != api.OK {
		s.Fatal(p.Transfer(), err)
	}
}

// tells tells a side what was decided, and the pledge that it did that.
func (s *shards) tells(p *Pledge, side bool) {
	s.Helper()
	part := p.Part(side)
	err := api.OK
	if is, at := p.Fate(); is == api.FateCommitted {
		err = s.v[part.Account].Commit(at, part.ID)
	} else {
		err = s.v[part.Account].Drop(part.ID)
	}
	if ack := p.Ack(side); err != api.OK || ack != api.OK {
		s.Fatal(p.Transfer(), side, err, ack)
	}
}

// both holds that both vaults know a transfer's parts by its fate, and that nothing is lost.
func (s *shards) both(p *Pledge) {
	s.Helper()
	var sum, top int64
	want, when := p.Fate()
	for _, side := range sides() {
		part := p.Part(side)
		if is, at := s.v[part.Account].Fate(part.ID); is != want || at != when {
			s.Fatalf("%v: %d at %d, and the part %v: %d at %d", p.Transfer(), want, when, part, is, at)
		}
		top = max(top, s.v[part.Account].Top())
	}
	for k, v := range s.v {
		if err := v.Close(top); err != api.OK {
			s.Fatal(err)
		}
		n, err := v.Has(k, top)
		if err != api.OK {
			s.Fatal(err)
		}
		sum += n
	}
	if sum != s.sum {
		s.Fatalf("%v: both have %d, had %d", p.Transfer(), sum, s.sum)
	}
}

// P16.1, P16.5: a pledge's parts are such as vaults hold, and what it decides they do: on both sides, at one stamp, or on none.
func TestBothSidesOrNone(t *testing.T) {
	r := rand.New(rand.NewPCG(16, 4))
	ends := map[api.Fate]int{}
	for range 40 {
		s := opened(t, [2]int64{most - 50, 50 + r.Int64N(100)})
		for id := 1; id <= 40; id++ {
			from := r.IntN(2)
			p := made(t, api.Transfer{ID: id, From: from, To: 1 - from, N: 1 + r.Int64N(100)})
			first := r.IntN(2) == 0
			for _, side := range []bool{first, !first} {
				s.asks(p, side, 1+r.Int64N(3))
			}
			if at, isReady := p.Ready(); isReady && r.IntN(5) > 0 {
				if err := p.Commit(at + r.Int64N(3)); err != api.OK {
					t.Fatal(id, err)
				}
			} else if err := p.Abort(); err != api.OK {
				t.Fatal(id, err)
			}
			for _, side := range p.Left() {
				s.tells(p, side)
			}
			s.both(p)
			is, _ := p.Fate()
			ends[is]++
		}
	}
	if ends[api.FateCommitted] < 300 || ends[api.FateDropped] < 300 {
		t.Error("too few", ends)
	}
}
