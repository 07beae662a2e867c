package pledge

import (
	"slices"

	"moiety/api"
)

// word is what a side said, in full.
type word struct {
	pays, yes bool
	t         int64
}

// ruling is what was decided, one behind the other.
type ruling struct {
	is api.Fate
	t  int64
}

// plain is a pledge as the chapter's words have it: all that was said, decided and done, and not refused, of which everything is found anew whenever it is asked for.
type plain struct {
	x       api.Transfer
	words   []word
	rulings []ruling
	acks    []bool
}

func newPlain(x api.Transfer) *plain { return &plain{x: x} }

// isWrong is why there is no pledge of a transfer.
func isWrong(x api.Transfer) api.Errno {
	if x.ID <= 0 || x.ID > 1000000 {
		return api.ErrPledgeID
	}
	for _, account := range []int{x.From, x.To} {
		if account < 0 || account > 4095 {
			return api.ErrPledgeAccount
		}
	}
	if x.From == x.To {
		return api.ErrPledgeSelf
	}
	if x.N <= 0 || x.N > 1000000000000000 {
		return api.ErrPledgeAmount
	}
	return api.OK
}

func (p *plain) Transfer() api.Transfer { return p.x }

func (p *plain) Part(pays bool) api.Part {
	part := api.Part{ID: p.x.ID + p.x.ID, Account: p.x.To, N: p.x.N, Pays: pays}
	if pays {
		part.ID--
		part.Account = p.x.From
	}
	return part
}

// of is all that a side said.
func (p *plain) of(pays bool) []word {
	return slices.DeleteFunc(slices.Clone(p.words), func(w word) bool { return w.pays != pays })
}

// yeses is the stamps of those sides that said yes.
func (p *plain) yeses() []int64 {
	var l []int64
	for _, pays := range []bool{true, false} {
		if said := p.of(pays); len(said) > 0 && said[0].yes {
			l = append(l, said[0].t)
		}
	}
	return l
}

func (p *plain) Vote(pays, yes bool, t int64) api.Errno {
	if yes && (t <= 0 || t > 1<<50) {
		return api.ErrPledgeTime
	}
	for _, w := range p.of(pays) {
		if w.yes != yes || yes && w.t != t {
			return api.ErrPledgeTwice
		}
	}
	p.words = append(p.words, word{pays, yes, t})
	if !yes && len(p.rulings) == 0 {
		p.rulings = append(p.rulings, ruling{api.FateDropped, 0})
	}
	return api.OK
}

func (p *plain) Ready() (int64, bool) {
	if l := p.yeses(); len(l) == 2 && len(p.rulings) == 0 {
		return slices.Max(l), true
	}
	return 0, false
}

func (p *plain) Commit(t int64) api.Errno {
	if t <= 0 || t > 1<<50 {
		return api.ErrPledgeTime
	}
	want := ruling{api.FateCommitted, t}
	for _, r := range p.rulings {
		if r != want {
			return api.ErrPledgeFate
		}
	}
	if len(p.rulings) > 0 {
		return api.OK
	}
	l := p.yeses()
	if len(l) < 2 {
		return api.ErrPledgeVotes
	}
	for _, since := range l {
		if t < since {
			return api.ErrPledgeOrder
		}
	}
	p.rulings = append(p.rulings, want)
	return api.OK
}

func (p *plain) Abort() api.Errno {
	for _, r := range p.rulings {
		if r.is == api.FateCommitted {
			return api.ErrPledgeFate
		}
	}
	p.rulings = append(p.rulings, ruling{api.FateDropped, 0})
	return api.OK
}

func (p *plain) Fate() (api.Fate, int64) {
	if len(p.rulings) == 0 {
		return api.FateNone, 0
	}
	return p.rulings[0].is, p.rulings[0].t
}

func (p *plain) Ack(pays bool) api.Errno {
	if len(p.rulings) == 0 {
		return api.ErrPledgeFate
	}
	p.acks = append(p.acks, pays)
	return api.OK
}

func (p *plain) Left() []bool {
	return slices.DeleteFunc([]bool{true, false}, func(pays bool) bool {
		if len(p.rulings) == 0 {
			return len(p.of(pays)) > 0
		}
		return slices.Contains(p.acks, pays)
	})
}
