package disk

import (
	"math"
	"slices"
	"strings"
	"testing"

	"moiety/api"
)

// half is a new disk with four logs of six bytes each, of which half are sure; that took eleven acts, since the last one is sure as a whole.
func half(t *testing.T) *Disk {
	t.Helper()
	d := made(t, 4)
	for log := range 3 {
		put(t, d, log, "abc", api.OK)
		sync(t, d, log, api.OK)
		put(t, d, log, "def", api.OK)
	}
	put(t, d, 3, "abcdef", api.OK)
	sync(t, d, 3, api.OK)
	stands(t, d, false, 11)
	return d
}

// keeps is lists of how much is kept, and what the logs of half have then.
func keeps() []struct {
	keep []int
	want [4]string
} {
	none := [4]string{"abc", "abc", "abc", "abcdef"}
	all := [4]string{"abcdef", "abcdef", "abcdef", "abcdef"}
	return []struct {
		keep []int
		want [4]string
	}{
		{nil, none},
		{[]int{}, none},
		{[]int{0, 0, 0, 0}, none},
		{[]int{-1, math.MinInt, -3, -6}, none},
		{[]int{3, 3, 3, 0}, all},
		{[]int{4, 6, 7, 1}, all},
		{[]int{math.MaxInt, math.MaxInt - 1, 1 << 31, math.MaxInt}, all},
		{[]int{1}, [4]string{"abcd", "abc", "abc", "abcdef"}},
		{[]int{2, 1}, [4]string{"abcde", "abcd", "abc", "abcdef"}},
		{[]int{-1, 2}, [4]string{"abc", "abcde", "abc", "abcdef"}},
		{[]int{0, 4, 1}, [4]string{"abc", "abcdef", "abcd", "abcdef"}},
		{[]int{2, 0, 3, -1, 5, -5, 7}, [4]string{"abcde", "abc", "abcdef", "abcdef"}},
		{slices.Repeat([]int{1}, 40), [4]string{"abcd", "abcd", "abcd", "abcdef"}},
	}
}

// haveJust holds what all logs of a disk have, all of it sure, against what that is to be.
func haveJust(t *testing.T, d *Disk, want [4]string) {
	t.Helper()
	for log, b := range want {
		has(t, d, log, b, len(b))
	}
}

// P7.2: Crash, by lists of all kinds; what stays is sure at once, ahead of the power's coming back.
func TestCrash(t *testing.T) {
	for _, c := range keeps() {
		d := half(t)
		d.Crash(c.keep)
		stands(t, d, true, 11)
		for log, b := range c.want {
			isSure(t, d, log, len(b))
		}
		d.Up()
		stands(t, d, false, 11)
		haveJust(t, d, c.want)
		put(t, d, 1, "+", api.OK) // behind what stayed, not behind what was lost
		has(t, d, 1, c.want[1]+"+", len(c.want[1]))
	}
}

// P7.2: what is armed goes off ahead of an Append, a Sync or a Swap, which comes to nothing; lists of all kinds.
func TestArm(t *testing.T) {
	for _, c := range keeps() {
		for kind := range 3 {
			d := half(t)
			d.Arm(1, c.keep)
			stands(t, d, false, 11)
			has(t, d, 0, "abcdef", 3)
			act(t, d, kind, 0, api.ErrDiskDown)
			stands(t, d, true, 11)
			unread(t, d, 0, api.ErrDiskDown)
			d.Up()
			haveJust(t, d, c.want)
			act(t, d, kind, 0, api.OK) // it went off once
			stands(t, d, false, 12)
		}
	}
}

// act is an Append, a Sync or a Swap, which is held against what it is to answer.
func act(t *testing.T, d *Disk, kind, log int, want api.Errno) {
	t.Helper()
	switch kind {
	case 0:
		put(t, d, log, "x", want)
	case 1:
		sync(t, d, log, want)
	default:
		swap(t, d, log, "y", want)
	}
}

// P7.2: the n-th act is refused, and none ahead of it, whatever kinds of acts come and of whatever logs.
func TestArmN(t *testing.T) {
	for n := 1; n <= 30; n++ {
		d := half(t)
		d.Arm(n, []int{1, 1, 1, 1})
		for k := 1; k < n; k++ {
			act(t, d, k%3, k%4, api.OK)
			stands(t, d, false, 11+k)
		}
		act(t, d, n%3, n%4, api.ErrDiskDown)
		stands(t, d, true, 10+n)
	}
}

// P7.2: what stays when the power goes is counted then, not when it was armed.
func TestArmKeepsOfThen(t *testing.T) {
	d := half(t)
	d.Arm(5, []int{4, 1, 0, 2})
	put(t, d, 0, "gh", api.OK)
	swap(t, d, 1, "new", api.OK)
	put(t, d, 1, "+-", api.OK)
	sync(t, d, 2, api.OK)
	swap(t, d, 3, "never", api.ErrDiskDown)
	d.Up()
	haveJust(t, d, [4]string{"abcdefg", "new+", "abcdef", "abcdef"})
}

// P7.2: of an n below 1 nothing is armed.
func TestArmNone(t *testing.T) {
	for _, n := range []int{0, -1, -2, math.MinInt} {
		d := half(t)
		d.Arm(n, []int{1})
		for k := range 20 {
			act(t, d, k%3, k%4, api.OK)
		}
		stands(t, d, false, 31)
		d = half(t)
		d.Arm(2, []int{1})
		put(t, d, 0, "g", api.OK)
		d.Arm(n, []int{2}) // and what was armed isn't any more
		for k := range 20 {
			act(t, d, k%3, k%4, api.OK)
		}
		stands(t, d, false, 32)
	}
}

// P7.2: an Arm takes the place of the one ahead of it: nearer, farther, with more kept and with less.
func TestArmAgain(t *testing.T) {
	for _, c := range []struct{ first, acts, then int }{{1, 0, 3}, {3, 0, 1}, {3, 2, 1}, {3, 2, 3}, {2, 1, 2}, {9, 4, 1}, {math.MaxInt, 5, 2}} {
		for _, keep := range [][]int{nil, {0}, {1, 2}, {3, 3, 3}} {
			d, want := half(t), half(t)
			d.Arm(c.first, []int{2, 2, 2, 2})
			for range c.acts {
				sync(t, d, 3, api.OK)
			}
			d.Arm(c.then, keep)
			for range c.then - 1 {
				sync(t, d, 3, api.OK)
			}
			sync(t, d, 3, api.ErrDiskDown)
			want.Crash(keep)
			alike(t, d, want)
		}
	}
}

// alike holds what two disks without power have against each other.
func alike(t *testing.T, a, b *Disk) {
	t.Helper()
	if !a.Down() || !b.Down() {
		t.Error("power:", !a.Down(), !b.Down())
	}
	a.Up()
	b.Up()
	for log := range 4 {
		got, err := a.Read(log)
		want, wantErr := b.Read(log)
		if string(got) != string(want) || err != wantErr || a.Sure(log) != b.Sure(log) {
			t.Errorf("log %d: %q, %d, %d sure, want %q, %d, %d", log, got, err, a.Sure(log), want, wantErr, b.Sure(log))
		}
	}
}

// P7.2: nothing is armed any more once the power went, by Crash as by what was armed; and it does not come back with it.
func TestCrashDisarms(t *testing.T) {
	d := half(t)
	d.Arm(1, []int{3, 3, 3})
	d.Crash([]int{1})
	d.Up()
	haveJust(t, d, [4]string{"abcd", "abc", "abc", "abcdef"})
	for k := range 20 {
		act(t, d, k%3, k%4, api.OK)
	}
	stands(t, d, false, 31)
}

// P7.2: Crash of a disk without power does nothing: no more is lost, none comes back, and what was armed meanwhile stays armed.
func TestCrashDown(t *testing.T) {
	d := half(t)
	d.Crash([]int{2, 2, 2})
	d.Crash(nil)
	d.Crash([]int{9, 9, 9})
	d.Arm(2, []int{1})
	d.Crash(nil)
	stands(t, d, true, 11)
	d.Up()
	haveJust(t, d, [4]string{"abcde", "abcde", "abcde", "abcdef"})
	put(t, d, 0, "xyz", api.OK)
	sync(t, d, 0, api.ErrDiskDown)
	d.Up()
	has(t, d, 0, "abcdex", 6)
}

// P7.2: what is armed while there is no power counts the acts from when it is back; what is refused till then is none.
func TestArmDown(t *testing.T) {
	d := half(t)
	d.Crash(nil)
	d.Arm(5, []int{9})
	d.Arm(2, []int{1, 0})
	for k := range 20 {
		act(t, d, k%3, k%4, api.ErrDiskDown)
	}
	d.Up()
	haveJust(t, d, [4]string{"abc", "abc", "abc", "abcdef"})
	put(t, d, 0, "xyz", api.OK)
	put(t, d, 0, "more", api.ErrDiskDown)
	stands(t, d, true, 12)
	d.Arm(1, nil)
	d.Arm(0, nil)
	d.Up()
	has(t, d, 0, "abcx", 4)
	sync(t, d, 0, api.OK)
}

// P7.2: Up of a disk that has power does nothing: what isn't sure isn't then, and what is armed stays so.
func TestUp(t *testing.T) {
	d := half(t)
	d.Up()
	has(t, d, 0, "abcdef", 3)
	d.Arm(2, []int{2})
	d.Up()
	put(t, d, 1, "x", api.OK)
	d.Up()
	stands(t, d, false, 12)
	sync(t, d, 0, api.ErrDiskDown)
	d.Up()
	haveJust(t, d, [4]string{"abcde", "abc", "abc", "abcdef"})
}

// P7.2: what is refused is no act, whatever refuses it: it is not counted, and brings what is armed no nearer; nor does what is no act at all.
func TestRefusedIsNoAct(t *testing.T) {
	d := full(t, 2)
	d.Arm(2, []int{1})
	refused := func() {
		put(t, d, -1, "x", api.ErrDiskLog)
		sync(t, d, 2, api.ErrDiskLog)
		swap(t, d, math.MaxInt, "x", api.ErrDiskLog)
		put(t, d, 1, strings.Repeat("x", most+1), api.ErrDiskFull)
		swap(t, d, 1, strings.Repeat("x", most+1), api.ErrDiskFull)
		unread(t, d, 2, api.ErrDiskLog)
		if b, err := d.Read(1); len(b) != 0 || err != api.OK {
			t.Errorf("Read(1) = %q, %d", b, err)
		}
	}
	refused()
	put(t, d, 0, "abc", api.ErrDiskFull)
	stands(t, d, false, 1)
	put(t, d, 0, "ab", api.OK)
	stands(t, d, false, 2)
	refused()
	put(t, d, 0, "c", api.ErrDiskFull)
	stands(t, d, false, 2)
	put(t, d, 0, "", api.ErrDiskDown) // no bytes at all are an act, too
	stands(t, d, true, 2)
	put(t, d, 0, "", api.ErrDiskDown)
	stands(t, d, true, 2)
	d.Up()
	has(t, d, 0, strings.Repeat("f", most-2)+"a", most-1)
	sync(t, d, 0, api.OK)
	stands(t, d, false, 3)
}

// P7.2: acts that change nothing are acts: what is armed counts them.
func TestIdleActs(t *testing.T) {
	for kind, idle := range []func(d *Disk) api.Errno{
		func(d *Disk) api.Errno { return d.Append(0, nil) },
		func(d *Disk) api.Errno { return d.Append(0, []byte{}) },
		func(d *Disk) api.Errno { return d.Sync(0) },
		func(d *Disk) api.Errno { return d.Swap(0, nil) },
	} {
		d := made(t, 1)
		d.Arm(4, nil)
		for n := range 3 {
			if err := idle(d); err != api.OK || d.Acts() != n+1 {
				t.Error(kind, n, err, d.Acts())
			}
		}
		if err := idle(d); err != api.ErrDiskDown || d.Acts() != 3 || !d.Down() {
			t.Error(kind, err, d.Acts(), d.Down())
		}
	}
}

// P7.2: Sure goes with what is appended, synced, swapped and lost.
func TestSure(t *testing.T) {
	d := made(t, 1)
	for _, s := range []struct {
		do   func()
		want int
	}{
		{func() { put(t, d, 0, "abc", api.OK) }, 0},
		{func() { sync(t, d, 0, api.OK) }, 3},
		{func() { put(t, d, 0, "de", api.OK) }, 3},
		{func() { d.Crash([]int{1}) }, 4},
		{d.Up, 4},
		{func() { swap(t, d, 0, "z", api.OK) }, 1},
		{func() { put(t, d, 0, "yx", api.OK) }, 1},
		{func() { d.Crash([]int{-7}) }, 1},
		{d.Up, 1},
		{func() { swap(t, d, 0, "", api.OK) }, 0},
	} {
		s.do()
		isSure(t, d, 0, s.want)
		isSure(t, d, 1, 0)
		isSure(t, d, -1, 0)
	}
}
