package vault

import (
	"testing"

	"moiety/api"
)

// P15.4: it is closed up to any time, from 0 on, and for good: a lesser one changes nothing; the top is at least that.
func TestClose(t *testing.T) {
	for _, at := range aroundAll(1, 10, 100) {
		d := having(t, 0.5, 7, 100)
		d.close(at, api.OK)
		d.tells(max(at, 1), at, 0)
		for _, lesser := range []int64{0, at / 2, max(at-1, 0), at} {
			d.close(lesser, api.OK)
			d.tells(max(at, 1), at, 0)
		}
		if at < end {
			d.close(at+1, api.OK)
			d.tells(at+1, at+1, 0)
		}
	}
	d := having(t, 0.5, 7, 100)
	for _, at := range noTimes() {
		d.close(at, api.ErrVaultTime)
	}
	d.tells(1, 0, 0)
}

// P15.4: not up to a stamp since when a part is held, nor beyond: just below the first one of all that are held.
func TestCloseBusy(t *testing.T) {
	d := having(t, 0.5, 7, 100, 8, 100, 9, 100)
	d.hold(10, pays(3, 7, 5), api.OK)
	d.hold(20, pays(1, 8, 5), api.OK)
	d.hold(30, pays(2, 9, 5), api.OK)
	for _, at := range []int64{10, 11, 19, 20, 21, 30, 31, 1000, end} {
		d.close(at, api.ErrVaultBusy)
	}
	d.close(8, api.OK)
	d.close(9, api.OK)
	d.close(5, api.OK)
	d.tells(30, 9, 0)
	d.commit(25, 3, api.OK) // now the one since 20 is the first one
	for _, at := range []int64{20, 21, 25, 30, 31, end} {
		d.close(at, api.ErrVaultBusy)
	}
	d.close(19, api.OK)
	d.drop(1, api.OK)
	for _, at := range []int64{30, 31, end} {
		d.close(at, api.ErrVaultBusy)
	}
	d.close(29, api.OK)
	d.snap(24, 7, 100, 8, 100, 9, 100)
	d.snap(25, 7, 93, 8, 100, 9, 100, 4103, 2)
	d.commit(40, 2, api.OK)
	d.close(30, api.OK)
	d.close(end, api.OK)
	d.tells(end, end, 0)
}

// P15.4: a part that is held since the first stamp, or the last one, hinders as any other one.
func TestCloseBusyAtEnds(t *testing.T) {
	d := having(t, 0.5, 7, 100)
	d.hold(2, pays(1, 7, 5), api.OK)
	d.close(0, api.OK)
	d.close(2, api.ErrVaultBusy)
	d.close(1, api.OK)
	d.drop(1, api.OK)
	d.hold(end, pays(2, 7, 5), api.OK)
	d.close(end, api.ErrVaultBusy)
	d.close(end-1, api.OK)
	d.commit(end, 2, api.OK)
	d.close(end, api.OK)
	d.has(7, end-1, 100)
	d.has(7, end, 93)
}

// P15.4: it is pruned by a mark up to which it is closed, and by none beyond; a lesser one changes nothing, and none is met.
func TestPrune(t *testing.T) {
	d := having(t, 0.5, 7, 100)
	d.close(50, api.OK)
	for _, mark := range []int64{51, 52, 100, end - 1, end} {
		d.prune(mark, api.ErrVaultOpen)
	}
	for _, mark := range noTimes() {
		d.prune(mark, api.ErrVaultTime)
	}
	d.tells(50, 50, 0)
	for _, k := range [][2]int64{{0, 0}, {1, 1}, {20, 20}, {20, 20}, {19, 20}, {0, 20}, {21, 21}, {49, 49}, {50, 50}, {10, 50}} {
		d.prune(k[0], api.OK)
		d.tells(50, 50, k[1])
	}
	d = begun(t, 0.5)
	d.prune(0, api.OK)
	d.prune(1, api.ErrVaultOpen)
	d.close(end, api.OK)
	d.prune(end, api.OK)
	d.tells(end, end, end)
}

// P15.4, P15.5: what counts at the mark is told from it on, and nothing ahead of it; what an account has now stays as it was.
func TestPruneKeepsWhatCounts(t *testing.T) {
	d := having(t, 0.5, 7, 100, 8, 0)
	d.hold(5, pays(1, 7, 10), api.OK)
	d.commit(6, 1, api.OK)
	d.hold(9, gets(2, 8, 3), api.OK)
	d.commit(12, 2, api.OK)
	d.hold(15, pays(3, 7, 10), api.OK)
	d.close(14, api.OK)
	for mark := range int64(15) {
		d.prune(mark, api.OK)
		for at := range mark {
			d.noSnap(at, api.ErrVaultOld)
			d.none(7, at, api.ErrVaultOld)
			d.none(9, at, api.ErrVaultOld)
		}
	}
	d.snap(14, 7, 85, 8, 3, 4103, 5)
	d.commit(20, 3, api.OK)
	d.close(30, api.OK)
	d.prune(30, api.OK)
	d.snap(30, 7, 70, 8, 3, 4103, 10)
	d.hold(31, pays(4, 7, 48), api.ErrVaultShort)
	d.hold(31, pays(4, 7, 47), api.OK)
}

// P15.5: what is told of a time: nothing of what is none, beyond what is closed, or ahead of the mark; of an account nothing, if it wasn't open then.
func TestTellsOfTimes(t *testing.T) {
	d := having(t, 0.5, 7, 100, 8, 0)
	d.close(10, api.OK)
	d.open(20, 9, 5, api.OK)
	d.close(30, api.OK)
	d.prune(10, api.OK)
	for _, at := range noTimes() {
		d.noSnap(at, api.ErrVaultTime)
		d.none(7, at, api.ErrVaultTime)
		d.none(3, at, api.ErrVaultTime)
	}
	for _, at := range []int64{31, 32, end - 1, end} {
		d.noSnap(at, api.ErrVaultOpen)
		d.none(7, at, api.ErrVaultOpen)
		d.none(3, at, api.ErrVaultOpen)
	}
	for _, at := range []int64{0, 1, 2, 9} {
		d.noSnap(at, api.ErrVaultOld)
		d.none(7, at, api.ErrVaultOld)
		d.none(3, at, api.ErrVaultOld)
	}
	for at := int64(10); at <= 30; at++ {
		d.has(7, at, 100)
		d.has(8, at, 0)
		d.none(3, at, api.ErrVaultNone)
		d.none(0, at, api.ErrVaultNone)
		d.none(4095, at, api.ErrVaultNone)
		if at < 20 {
			d.none(9, at, api.ErrVaultNone)
			d.snap(at, 7, 100, 8, 0)
			continue
		}
		d.has(9, at, 5)
		d.snap(at, 7, 100, 8, 0, 9, 5)
	}
}

// P15.5: what is no account is told ahead of what is wrong with a time; what an account has paid is no account's.
func TestHasNoAccount(t *testing.T) {
	d := having(t, 0.5, 7, 100)
	d.hold(2, pays(1, 7, 10), api.OK)
	d.commit(2, 1, api.OK)
	d.close(9, api.OK)
	d.prune(3, api.OK)
	for _, account := range noAccounts() {
		for _, at := range append(noTimes(), 0, 2, 3, 9, 10, end) {
			d.none(account, at, api.ErrVaultAccount)
		}
	}
}

// P15.5: a snapshot is by rising keys, however accounts were opened and parts committed: first what all have, noughts too, then what those that paid have paid.
func TestSnap(t *testing.T) {
	d := having(t, 0.1, 4095, 100, 0, 0, 9, 100, 3, 100, 1000, 0)
	d.hold(11, pays(9, 4095, 10), api.OK)
	d.hold(12, gets(8, 0, 10), api.OK)
	d.hold(13, pays(7, 3, 90), api.OK)
	d.hold(14, gets(6, 1000, 90), api.OK)
	for _, id := range []int{6, 7, 8, 9} {
		d.commit(20, id, api.OK)
	}
	d.hold(21, pays(5, 9, 20), api.OK)
	d.commit(22, 5, api.OK)
	d.close(30, api.OK)
	d.snap(0)
	d.snap(1, 4095, 100)
	d.snap(3, 0, 0, 9, 100, 4095, 100)
	d.snap(19, 0, 0, 3, 100, 9, 100, 1000, 0, 4095, 100)
	d.snap(20, 0, 10, 3, 1, 9, 100, 1000, 90, 4095, 89, 4099, 9, 8191, 1)
	d.snap(22, 0, 10, 3, 1, 9, 78, 1000, 90, 4095, 89, 4099, 9, 4105, 2, 8191, 1)
}

// P15.5: a part that is held, or was dropped, is to be seen at no time.
func TestHeldAndDroppedAreNotSeen(t *testing.T) {
	d := having(t, 0.5, 7, 100, 8, 100)
	d.hold(5, pays(1, 7, 10), api.OK)
	d.drop(1, api.OK)
	d.hold(10, pays(2, 7, 10), api.OK)
	d.close(9, api.OK)
	for at := int64(2); at <= 9; at++ {
		d.snap(at, 7, 100, 8, 100)
	}
	d.drop(2, api.OK)
	d.close(20, api.OK)
	d.snap(20, 7, 100, 8, 100)
}

// P15.4, P15.5: Top, Closed and Mark behind each kind of call.
func TestTellsBehindEachCall(t *testing.T) {
	d := begun(t, 0.5)
	d.open(3, 7, 100, api.OK)
	d.tells(3, 0, 0)
	d.hold(5, pays(1, 7, 10), api.OK)
	d.tells(5, 0, 0)
	d.close(4, api.OK)
	d.tells(5, 4, 0)
	d.commit(8, 1, api.OK)
	d.tells(8, 4, 0)
	d.drop(2, api.OK)
	d.tells(8, 4, 0)
	d.close(12, api.OK)
	d.tells(12, 12, 0)
	d.prune(6, api.OK)
	d.tells(12, 12, 6)
	d.close(7, api.OK)
	d.tells(12, 12, 6)
	d.open(13, 8, 100, api.OK)
	d.tells(13, 12, 6)
}
