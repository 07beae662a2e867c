package ledger

import (
	"math"
	"testing"

	"moiety/api"
)

// P14.2: the charge is the fee of the amount: none, cut downwards, as much as the amount; from pays it beside the amount, and to gets the amount alone.
func TestMoveCharges(t *testing.T) {
	for _, k := range []struct {
		rate      float64
		n, charge int64
	}{
		{0, 1, 0}, {0, 1000, 0}, {math.Copysign(0, -1), 1000, 0}, {bit, 1000, 0}, {1e-15, 1000, 0},
		{0.01, 1, 0}, {0.01, 99, 0}, {0.01, 100, 1}, {0.01, 101, 1}, {0.01, 199, 1}, {0.01, 200, 2}, {0.01, 5000, 50},
		{0.5, 1, 0}, {0.5, 2, 1}, {0.5, 3, 1}, {0.5, 4, 2}, {0.25, 7, 1}, {0.75, 7, 5},
		{0.3, 10, 2}, {0.999, 1000, 998}, // these are a little below three tenths, and 999 thousandths
		{0.1, 10, 1}, {math.Nextafter(0.5, 0), 2, 0}, {math.Nextafter(1, 0), 1, 0}, {math.Nextafter(1, 0), 1000, 999}, {1, 1, 1}, {1, 5000, 5000},
	} {
		d := begun(t, k.rate, 3, 10000, 9, 50)
		d.move(3, 9, k.n, k.charge)
		d.has(3, 10000-k.n-k.charge, k.charge)
		d.has(9, 50+k.n, 0)
		d.move(9, 3, 1, d.p.fee(1))
	}
}

// P14.2: what was paid adds up, move by move, for each account on its own.
func TestMovesAddUp(t *testing.T) {
	d := begun(t, 0.5, 0, 1000, 4095, 1000)
	d.move(0, 4095, 100, 50)
	d.has(0, 850, 50)
	d.move(0, 4095, 100, 50)
	d.has(0, 700, 100)
	d.move(4095, 0, 7, 3)
	d.has(0, 707, 100)
	d.has(4095, 1190, 3)
	d.move(4095, 0, 1, 0)
	d.has(4095, 1189, 3)
	d.list(0, 708, 4095, 1189, 4096, 100, 8191, 3)
}

// P14.2: from may spend all that it has, but not one more: the charge counts.
func TestMoveShort(t *testing.T) {
	for _, k := range []struct {
		rate      float64
		n, charge int64
	}{{0, 1, 0}, {0, 100, 0}, {0.01, 99, 0}, {0.01, 100, 1}, {0.01, 1000, 10}, {0.5, 1, 0}, {0.5, 100, 50}, {0.5, 101, 50}, {1, 1, 1}, {1, 100, 100}} {
		all := k.n + k.charge
		for _, has := range []int64{all, all + 1, 2 * all} {
			d := begun(t, k.rate, 1, has, 2, 0)
			d.move(1, 2, k.n, k.charge)
			d.has(1, has-all, k.charge)
			d.has(2, k.n, 0)
		}
		for _, has := range []int64{all - 1, k.n - 1, 0} { // n too, wherever there is a charge
			d := begun(t, k.rate, 1, has, 2, 0)
			d.noMove(1, 2, k.n, api.ErrLedgerShort)
			d.list(1, has, 2, 0)
		}
		if k.charge > 0 { // just what there is, without the charge
			d := begun(t, k.rate, 1, k.n, 2, 0)
			d.noMove(1, 2, k.n, api.ErrLedgerShort)
		}
	}
}

// P14.2: what was moved away is there no more, and what was got may be moved on.
func TestMoveShortBehindMoves(t *testing.T) {
	d := begun(t, 0.1, 1, 110, 2, 0, 3, 0)
	d.noMove(2, 3, 1, api.ErrLedgerShort)
	d.move(1, 2, 100, 10)
	d.has(1, 0, 10)
	d.noMove(1, 2, 1, api.ErrLedgerShort)
	d.noMove(2, 3, 100, api.ErrLedgerShort)
	d.noMove(2, 3, 92, api.ErrLedgerShort)
	d.move(2, 3, 91, 9)
	d.has(2, 0, 9)
	d.noMove(2, 1, 1, api.ErrLedgerShort)
	d.list(1, 0, 2, 0, 3, 91, 4097, 10, 4098, 9)
}

// P14.2: to may have just MaxAmount then, and not one more.
func TestMoveFull(t *testing.T) {
	for _, rate := range []float64{0, 0.01, 0.5, 1} {
		for _, n := range []int64{1, 2, 100, 1000, most / 4} {
			charge := newPlain(rate).fee(n)
			for _, over := range []int64{0, 1, 2, 1000} {
				had := most - n + over
				if had > most {
					had = most
				}
				d := begun(t, rate, 1, most, 2, had)
				if over == 0 {
					d.move(1, 2, n, charge)
					d.has(2, most, 0)
					d.noMove(1, 2, 1, api.ErrLedgerFull)
					continue
				}
				d.noMove(1, 2, n, api.ErrLedgerFull)
				d.list(1, most, 2, had)
			}
		}
	}
}

// P14.2: the charge goes with from alone: to may have just MaxAmount then, however great the charge is.
func TestChargeFillsNobody(t *testing.T) {
	d := begun(t, 1, 1, most, 2, most-100)
	d.move(1, 2, 100, 100)
	d.list(1, most-200, 2, most, 4097, 100)
}

// P14.2: MaxAmount moves where there is no charge; with a charge no account has enough.
func TestMoveMaxAmount(t *testing.T) {
	for _, rate := range []float64{0, math.Copysign(0, -1), bit, 1e-16} {
		d := begun(t, rate, 0, most, 4095, 0)
		d.move(0, 4095, most, 0)
		d.list(0, 0, 4095, most)
		d.noMove(0, 4095, most, api.ErrLedgerShort)
		d.move(4095, 0, most, 0)
		d.open(7, 1, api.OK)
		d.open(8, most, api.OK)
		d.noMove(0, 7, most, api.ErrLedgerFull)
		d.noMove(0, 8, most, api.ErrLedgerFull)
		d.noMove(0, 8, 1, api.ErrLedgerFull)
		d.move(0, 7, most-1, 0)
		d.list(0, 1, 7, most, 8, most, 4095, 0)
	}
	for _, rate := range []float64{1e-15, 0.01, 0.5, math.Nextafter(1, 0), 1} {
		d := begun(t, rate, 0, most, 4095, 0)
		d.noMove(0, 4095, most, api.ErrLedgerShort)
		d.list(0, most, 4095, 0)
	}
}

// P14.2: half of MaxAmount by 1 takes all of it.
func TestMoveHalf(t *testing.T) {
	d := begun(t, 1, 0, most, 1, most/2)
	d.noMove(0, 1, most/2+1, api.ErrLedgerShort)
	d.move(0, 1, most/2, most/2)
	d.list(0, 0, 1, most, 4096, most/2)
}

// P14.2, P14.3: what an account has paid in all may be more than an amount.
func TestPaidMoreThanAnAmount(t *testing.T) {
	d := begun(t, 1, 0, most, 9, 0)
	d.move(0, 9, most/2, most/2)
	for from := 1; from <= 5; from++ {
		d.open(from, most, api.OK)
		d.open(100+from, 0, api.OK)
		d.move(from, 0, most/2, most/2)
		d.move(0, 100+from, most/4, most/4)
		d.has(0, 0, most/2+int64(from)*(most/4))
	}
	d.has(0, 0, most+3*(most/4))
}

// P14.2: accounts at both ends may pay and get, and keys of what is paid are theirs.
func TestMoveAtBothEnds(t *testing.T) {
	d := begun(t, 0.01, 0, 5000, 4095, 5000, 1, 7, 4094, 7)
	d.move(0, 4095, 100, 1)
	d.move(4095, 0, 300, 3)
	d.list(0, 5199, 1, 7, 4094, 7, 4095, 4797, 4096, 1, 8191, 3)
}
