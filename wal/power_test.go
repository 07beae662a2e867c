package wal

import (
	"testing"

	"moiety/api"
	"moiety/disk"
)

// asks is each call of a wal that a loss of power can meet.
func asks() []func(w *Wal) api.Errno {
	return []func(w *Wal) api.Errno{
		func(w *Wal) api.Errno { return w.Append([]byte("new")) },
		func(w *Wal) api.Errno { return w.Append(nil) },
		func(w *Wal) api.Errno { return w.Sync() },
		func(w *Wal) api.Errno { return w.Fresh(loads([]string{"new", "er"})) },
		func(w *Wal) api.Errno { return w.Fresh(nil) },
	}
}

// isDead holds that a wal answers nothing but that it is dead, whatever else is wrong, and counts what it counted; its disk sees none of it.
func isDead(t *testing.T, d *disk.Disk, w *Wal, all, sure int) {
	t.Helper()
	acts := d.Acts()
	for k, ask := range asks() {
		if err := ask(w); err != api.ErrWalDead {
			t.Errorf("ask %d: %d", k, err)
		}
	}
	put(t, w, long(api.MaxFrame+1), api.ErrWalDead)
	fresh(t, w, api.ErrWalDead, "a", long(api.MaxFrame+1))
	fresh(t, w, api.ErrWalDead, fullLoads()...)
	fresh(t, w, api.ErrWalDead, append(fullLoads(), "")...)
	counted(t, w, all, sure)
	acted(t, d, acts)
}

// P8.2: a wal is dead from the call on that met the loss of power, whichever that is, whether the power went ahead of the call or in it; and it stays so when the power is back.
func TestDead(t *testing.T) {
	for k, ask := range asks() {
		for _, armed := range []bool{false, true} {
			d, w := begun(t, 2, "a", "bb", "c", "dd")
			if armed {
				d.Arm(1, []int{13})
			} else {
				d.Crash([]int{13})
			}
			if err := ask(w); err != api.ErrDiskDown {
				t.Errorf("ask %d: %d", k, err)
			}
			isDead(t, d, w, 4, 2)
			d.Up()
			isDead(t, d, w, 4, 2)
			has(t, d, 0, joined("a", "bb", "c", "dd")[:32], 32)
			v := opened(t, d, 0, "a", "bb", "c")
			put(t, v, "e", api.OK)
			isDead(t, d, w, 4, 2)
			counted(t, v, 4, 3)
			has(t, d, 0, joined("a", "bb", "c", "e"), 28)
		}
	}
}

// P8.2: what the disk isn't asked for meets no loss of power: a load that is too long is told, with power and without it, and the wal goes on when the power is back.
func TestTooLongWithoutPower(t *testing.T) {
	d, w := begun(t, 1, "a")
	d.Crash(nil)
	put(t, w, long(api.MaxFrame+1), api.ErrFrameLong)
	fresh(t, w, api.ErrFrameLong, "a", long(api.MaxFrame+1))
	fresh(t, w, api.ErrFrameLong, append(fullLoads(), "", long(api.MaxFrame+1))...)
	counted(t, w, 1, 1)
	d.Up()
	put(t, w, "bb", api.OK)
	opened(t, d, 0, "a", "bb")
}

// P8.2: without power there is none also for what would be too much, and that is met; with power there is no room, which is no death.
func TestTooMuchWithoutPower(t *testing.T) {
	l := fullLoads()
	for k, ask := range []func(w *Wal) api.Errno{
		func(w *Wal) api.Errno { return w.Append(nil) },
		func(w *Wal) api.Errno { return w.Fresh(loads(append(l, ""))) },
	} {
		d, w := begun(t, 0)
		fresh(t, w, api.OK, l...)
		d.Arm(1, nil) // what is refused otherwise doesn't bring it nearer
		if err := ask(w); err != api.ErrDiskFull {
			t.Errorf("ask %d: %d", k, err)
		}
		counted(t, w, len(l), len(l))
		d.Crash(nil)
		if err := ask(w); err != api.ErrDiskDown {
			t.Errorf("ask %d: %d", k, err)
		}
		isDead(t, d, w, len(l), len(l))
		d.Up()
		opened(t, d, 0, l...)
	}
}

// P8.2: a wal none of whose calls met the loss of power isn't dead.
func TestNotMet(t *testing.T) {
	for k, ask := range asks() {
		d, w := begun(t, 1, "a")
		d.Crash(nil)
		counted(t, w, 1, 1)
		d.Up()
		if err := ask(w); err != api.OK {
			t.Errorf("ask %d: %d", k, err)
		}
		put(t, w, "more", api.OK)
	}
}

// P8.2: an Append in which the power goes leaves all as if it had not been asked for.
func TestPowerGoesInAppend(t *testing.T) {
	for keep := -1; keep <= 30; keep++ {
		d, w := begun(t, 1, "a", "bb", "c")
		d.Arm(1, []int{keep})
		put(t, w, "new", api.ErrDiskDown)
		isDead(t, d, w, 3, 1)
		d.Up()
		kept := min(max(keep, 0), 19)
		has(t, d, 0, joined("a", "bb", "c")[:9+kept], 9+kept)
		opened(t, d, 0, []string{"a", "bb", "c"}[:1+whole([]string{"bb", "c"}, kept)]...)
	}
}

// P8.2: a Sync in which the power goes makes nothing sure; what is kept is.
func TestPowerGoesInSync(t *testing.T) {
	for keep := -1; keep <= 30; keep++ {
		d, w := begun(t, 2, "a", "bb", "", "c")
		d.Arm(1, []int{keep})
		sync(t, w, api.ErrDiskDown)
		isDead(t, d, w, 4, 2)
		d.Up()
		opened(t, d, 0, []string{"a", "bb", "", "c"}[:2+whole([]string{"", "c"}, keep)]...)
	}
}

// P8.2: a Fresh in which the power goes leaves the loads that were there, as far as they are kept, and none of its own.
func TestPowerGoesInFresh(t *testing.T) {
	for keep := -1; keep <= 30; keep++ {
		for _, l := range [][]string{nil, {"new"}, {"x", "y", "z", "w", "v"}} {
			d, w := begun(t, 1, "a", "bb", "c")
			d.Arm(1, []int{keep})
			fresh(t, w, api.ErrDiskDown, l...)
			isDead(t, d, w, 3, 1)
			d.Up()
			opened(t, d, 0, []string{"a", "bb", "c"}[:1+whole([]string{"bb", "c"}, keep)]...)
		}
	}
}

// P8.2: a Fresh behind whose Swap the power goes has its loads, all of them.
func TestPowerGoesBehindFresh(t *testing.T) {
	for _, l := range [][]string{nil, {"new"}, {"x", "y", "z", "w", "v"}} {
		d, w := begun(t, 1, "a", "bb", "c")
		fresh(t, w, api.OK, l...)
		put(t, w, "more", api.OK)
		d.Arm(1, []int{5})
		sync(t, w, api.ErrDiskDown)
		isDead(t, d, w, len(l)+1, len(l))
		d.Up()
		opened(t, d, 0, l...)
	}
}

// whole is how many loads' frames are whole, of bytes of which so many are kept.
func whole(loads []string, keep int) int {
	for n, load := range loads {
		keep -= len(framed(load))
		if keep < 0 {
			return n
		}
	}
	return len(loads)
}

// P8.1: an Open in whose Swap the power goes answers that, and changes nothing but what the power does: it can be opened later, and has the same loads as far as they are kept.
func TestPowerGoesInOpensSwap(t *testing.T) {
	l := []string{"a", "bb", ""}
	b := joined(l...)
	for _, tail := range []string{"t", "no frame at all", framed("load")[:11], turned(framed("load"), 10) + joined("a")} {
		for sure := range len(b+tail) + 1 {
			for _, keep := range []int{-1, 0, 1, 5, 9, 10, 17, 20, 28, 40, 60} {
				d := laid(t, b+tail, sure)
				d.Arm(1, []int{keep})
				unopened(t, d, 0, api.ErrDiskDown)
				unopened(t, d, 0, api.ErrDiskDown)
				d.Up()
				kept := min(sure+max(keep, 0), len(b+tail))
				has(t, d, 0, (b + tail)[:kept], kept)
				acted(t, d, 3)
				opened(t, d, 0, l[:whole(l, kept)]...)
				opened(t, d, 0, l[:whole(l, kept)]...)
			}
		}
	}
}

// P8.1: an Open in whose Sync the power goes likewise.
func TestPowerGoesInOpensSync(t *testing.T) {
	l := []string{"a", "bb", "", "c"}
	b := joined(l...)
	for sure := range len(b) {
		for keep := -1; keep <= len(b)-sure+1; keep++ {
			d := laid(t, b, sure)
			d.Arm(1, []int{keep})
			unopened(t, d, 0, api.ErrDiskDown)
			unopened(t, d, 0, api.ErrDiskDown)
			d.Up()
			kept := min(sure+max(keep, 0), len(b))
			has(t, d, 0, b[:kept], kept)
			acted(t, d, 3)
			opened(t, d, 0, l[:whole(l, kept)]...)
			opened(t, d, 0, l[:whole(l, kept)]...)
		}
	}
}

// P8.1: an Open that needs no act meets no loss of power; one that needs one brings what is armed nearer by one.
func TestArmedAheadOfOpen(t *testing.T) {
	for _, c := range []struct {
		b    string
		sure int
		left int
	}{{joined("a"), 9, 2}, {joined("a"), 4, 1}, {joined("a") + "t", 10, 1}, {joined("a") + "t", 9, 1}, {joined("a") + "t", 3, 1}} {
		d := laid(t, c.b, c.sure)
		d.Arm(2, nil)
		w := opened(t, d, 0, "a")
		for range c.left - 1 {
			sync(t, w, api.OK)
		}
		sync(t, w, api.ErrDiskDown)
		isDead(t, d, w, 1, 1)
	}
}

// P8.1, P8.2: the power of one log's disk is that of all its logs; each wal meets the loss by itself, and has of its own log what is kept there.
func TestPowerOfTwo(t *testing.T) {
	d := made(t, 2)
	a, b := opened(t, d, 0), opened(t, d, 1)
	put(t, a, "a", api.OK)
	put(t, b, "b", api.OK)
	put(t, b, "bb", api.OK)
	d.Arm(1, []int{8, 9})
	sync(t, a, api.ErrDiskDown)
	isDead(t, d, a, 1, 0)
	put(t, b, long(api.MaxFrame+1), api.ErrFrameLong)
	sync(t, b, api.ErrDiskDown)
	isDead(t, d, b, 2, 0)
	d.Up()
	opened(t, d, 0)
	opened(t, d, 1, "b")
}
