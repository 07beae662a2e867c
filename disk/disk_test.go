package disk

import (
	"math"
	"strings"
	"testing"

	"moiety/api"
)

const most = api.MaxLog

// made is a new disk.
func made(t *testing.T, n int) *Disk {
	t.Helper()
	d, err := New(n)
	if d == nil || err != api.OK {
		t.Fatalf("New(%d) = %v, %d", n, d, err)
	}
	return d
}

// full is a new disk with two logs, of which the first one is full but for some bytes, all of them sure.
func full(t *testing.T, but int) *Disk {
	t.Helper()
	d := made(t, 2)
	swap(t, d, 0, strings.Repeat("f", most-but), api.OK)
	return d
}

// put appends to a log, and holds the answer against what it is to be.
func put(t *testing.T, d *Disk, log int, b string, want api.Errno) {
	t.Helper()
	if err := d.Append(log, []byte(b)); err != want {
		t.Errorf("Append(%d, %.20q) of %d bytes = %d, want %d", log, b, len(b), err, want)
	}
}

// sync makes a log sure, and holds the answer against what it is to be.
func sync(t *testing.T, d *Disk, log int, want api.Errno) {
	t.Helper()
	if err := d.Sync(log); err != want {
		t.Errorf("Sync(%d) = %d, want %d", log, err, want)
	}
}

// swap gives a log other bytes, and holds the answer against what it is to be.
func swap(t *testing.T, d *Disk, log int, b string, want api.Errno) {
	t.Helper()
	if err := d.Swap(log, []byte(b)); err != want {
		t.Errorf("Swap(%d, %.20q) of %d bytes = %d, want %d", log, b, len(b), err, want)
	}
}

// has reads a log, and holds what it has, and how much of that is sure, against what these are to be.
func has(t *testing.T, d *Disk, log int, want string, sure int) {
	t.Helper()
	b, err := d.Read(log)
	if string(b) != want || err != api.OK {
		t.Errorf("Read(%d) = %.40q of %d bytes, %d, want %.40q of %d", log, b, len(b), err, want, len(want))
	}
	isSure(t, d, log, sure)
}

// unread reads a log that can't be read.
func unread(t *testing.T, d *Disk, log int, want api.Errno) {
	t.Helper()
	if b, err := d.Read(log); b != nil || err != want {
		t.Errorf("Read(%d) = %.40q, %d, want %d", log, b, err, want)
	}
}

func isSure(t *testing.T, d *Disk, log, want int) {
	t.Helper()
	if got := d.Sure(log); got != want {
		t.Errorf("Sure(%d) = %d, want %d", log, got, want)
	}
}

// stands holds whether there is power, and how many acts there were, against what these are to be.
func stands(t *testing.T, d *Disk, down bool, acts int) {
	t.Helper()
	if d.Down() != down || d.Acts() != acts {
		t.Errorf("Down %v, Acts %d, want %v, %d", d.Down(), d.Acts(), down, acts)
	}
}

// noLogs is numbers that are no logs of a disk with n of them: those next to them and the ends among them.
func noLogs(n int) []int {
	return []int{-1, -2, -n, n, n + 1, api.MaxLogs, api.MaxLogs + 1, 1 << 31, -1 << 31, math.MinInt, math.MinInt + 1, math.MaxInt - 1, math.MaxInt}
}

// P7.1, P7.2: the chapter's examples.
func TestExamples(t *testing.T) {
	d := made(t, 2)
	put(t, d, 0, "ab", api.OK)
	sync(t, d, 0, api.OK)
	put(t, d, 0, "cde", api.OK)
	d.Crash([]int{2})
	d.Up()
	has(t, d, 0, "abcd", 4)
	d.Arm(2, nil)
	put(t, d, 1, "x", api.OK)
	sync(t, d, 1, api.ErrDiskDown)
	d.Up()
	has(t, d, 1, "", 0)
}

// P7.1: New, by how many logs there may be, and by numbers of which there may not; all logs are empty, and there is power.
func TestNew(t *testing.T) {
	for n := 1; n <= api.MaxLogs; n++ {
		d := made(t, n)
		stands(t, d, false, 0)
		for log := range n {
			has(t, d, log, "", 0)
			sync(t, d, log, api.OK)
		}
		for _, log := range noLogs(n) {
			unread(t, d, log, api.ErrDiskLog)
		}
	}
	for _, n := range []int{0, -1, api.MaxLogs + 1, api.MaxLogs + 2, 1 << 31, -1 << 31, math.MinInt, math.MaxInt} {
		if d, err := New(n); d != nil || err != api.ErrDiskLog {
			t.Errorf("New(%d) = %v, %d", n, d, err)
		}
	}
}

// P7.1: logs know nothing of each other, nor do disks.
func TestLogsStandAlone(t *testing.T) {
	a, b := made(t, api.MaxLogs), made(t, api.MaxLogs)
	for log := range api.MaxLogs {
		put(t, a, log, strings.Repeat("a", log), api.OK)
		if log%2 == 0 {
			sync(t, a, log, api.OK)
		}
	}
	for log := range api.MaxLogs {
		sure := log
		if log%2 == 1 {
			sure = 0
		}
		has(t, a, log, strings.Repeat("a", log), sure)
		has(t, b, log, "", 0)
	}
	a.Arm(1, nil)
	put(t, b, 0, "b", api.OK)
	a.Crash(nil)
	stands(t, b, false, 1)
	has(t, b, 0, "b", 0)
}

// P7.1: Append puts bytes behind all others, and makes none of them sure.
func TestAppend(t *testing.T) {
	d := made(t, 2)
	put(t, d, 1, "a", api.OK)
	put(t, d, 1, "", api.OK)
	put(t, d, 1, "bc\x00", api.OK)
	has(t, d, 1, "abc\x00", 0)
	sync(t, d, 1, api.OK)
	put(t, d, 1, "\xff", api.OK)
	has(t, d, 1, "abc\x00\xff", 4)
	has(t, d, 0, "", 0)
	stands(t, d, false, 5)
}

// P7.1: Sync makes all bytes sure, once and again, also where there are none.
func TestSync(t *testing.T) {
	d := made(t, 3)
	sync(t, d, 2, api.OK)
	has(t, d, 2, "", 0)
	put(t, d, 2, "abc", api.OK)
	put(t, d, 0, "x", api.OK)
	sync(t, d, 2, api.OK)
	sync(t, d, 2, api.OK)
	has(t, d, 2, "abc", 3)
	has(t, d, 0, "x", 0)
	stands(t, d, false, 5)
}

// P7.1: Swap takes all bytes that were there, sure or not, and gives others that are sure: more, fewer, or none.
func TestSwap(t *testing.T) {
	d := made(t, 2)
	put(t, d, 0, "abc", api.OK)
	sync(t, d, 0, api.OK)
	put(t, d, 0, "de", api.OK)
	for _, b := range []string{"x", "longer than that", "", "yz", "yz", "\x00"} {
		swap(t, d, 0, b, api.OK)
		has(t, d, 0, b, len(b))
		put(t, d, 0, "+", api.OK)
		has(t, d, 0, b+"+", len(b))
	}
	has(t, d, 1, "", 0)
	stands(t, d, false, 15)
}

// P7.1: nil is no bytes, and what is done with it is done.
func TestNil(t *testing.T) {
	d := made(t, 1)
	if err := d.Append(0, nil); err != api.OK {
		t.Error(err)
	}
	put(t, d, 0, "a", api.OK)
	if err := d.Append(0, nil); err != api.OK {
		t.Error(err)
	}
	has(t, d, 0, "a", 0)
	if err := d.Swap(0, nil); err != api.OK {
		t.Error(err)
	}
	has(t, d, 0, "", 0)
	stands(t, d, false, 4)
}

// P7.1: a log takes MaxLog bytes, and not one more, by one Append or by several; another one is as empty as it was.
func TestAppendFull(t *testing.T) {
	for _, but := range []int{0, 1, 2, most} {
		d := full(t, but)
		put(t, d, 0, strings.Repeat("g", but+1), api.ErrDiskFull)
		put(t, d, 0, strings.Repeat("g", most+1), api.ErrDiskFull)
		has(t, d, 0, strings.Repeat("f", most-but), most-but)
		put(t, d, 0, strings.Repeat("g", but), api.OK)
		put(t, d, 0, "h", api.ErrDiskFull)
		put(t, d, 0, "", api.OK)
		has(t, d, 0, strings.Repeat("f", most-but)+strings.Repeat("g", but), most-but)
		put(t, d, 1, "h", api.OK)
		has(t, d, 1, "h", 0)
		sync(t, d, 0, api.OK)
		isSure(t, d, 0, most)
		stands(t, d, false, 5)
	}
}

// P7.1: Swap takes MaxLog bytes, and not one more, however full the log is.
func TestSwapFull(t *testing.T) {
	for _, but := range []int{0, 1, most} {
		d := full(t, but)
		swap(t, d, 0, strings.Repeat("g", most+1), api.ErrDiskFull)
		has(t, d, 0, strings.Repeat("f", most-but), most-but)
		swap(t, d, 0, strings.Repeat("g", most), api.OK)
		has(t, d, 0, strings.Repeat("g", most), most)
		put(t, d, 0, "h", api.ErrDiskFull)
		swap(t, d, 0, "h", api.OK)
		has(t, d, 0, "h", 1)
		stands(t, d, false, 3)
	}
}

// P7.1: a log that lost bytes has room for as many.
func TestRoomAgain(t *testing.T) {
	d := full(t, 3)
	put(t, d, 0, "abc", api.OK)
	d.Crash([]int{1})
	d.Up()
	put(t, d, 0, "xyz", api.ErrDiskFull)
	put(t, d, 0, "xy", api.OK)
	has(t, d, 0, strings.Repeat("f", most-3)+"axy", most-2)
}

// P7.1: what is no log is told by each call, whether there is power or not, and whatever else is wrong; nothing comes of it.
func TestNoLog(t *testing.T) {
	for _, n := range []int{1, 2, 15} {
		d := made(t, n)
		put(t, d, 0, "ab", api.OK)
		for range 2 {
			for _, log := range noLogs(n) {
				put(t, d, log, "x", api.ErrDiskLog)
				put(t, d, log, "", api.ErrDiskLog)
				sync(t, d, log, api.ErrDiskLog)
				swap(t, d, log, "x", api.ErrDiskLog)
				unread(t, d, log, api.ErrDiskLog)
				isSure(t, d, log, 0)
			}
			put(t, d, -1, strings.Repeat("x", most+1), api.ErrDiskLog)
			swap(t, d, n, strings.Repeat("x", most+1), api.ErrDiskLog)
			d.Crash([]int{1})
		}
		d.Up()
		has(t, d, 0, "a", 1)
		stands(t, d, false, 1)
	}
}

// P7.1: the last log, and the one behind it.
func TestLastLog(t *testing.T) {
	for n := 1; n <= api.MaxLogs; n++ {
		d := made(t, n)
		put(t, d, n-1, "a", api.OK)
		sync(t, d, n-1, api.OK)
		swap(t, d, n-1, "bc", api.OK)
		has(t, d, n-1, "bc", 2)
		put(t, d, n, "a", api.ErrDiskLog)
		sync(t, d, n, api.ErrDiskLog)
		swap(t, d, n, "bc", api.ErrDiskLog)
		unread(t, d, n, api.ErrDiskLog)
	}
}

// P7.1: without power there is none for any call, also for one that would be too long; what is sure is told.
func TestDown(t *testing.T) {
	d := full(t, 0)
	put(t, d, 1, "abc", api.OK)
	d.Crash([]int{0, 1})
	for log := range 2 {
		put(t, d, log, "x", api.ErrDiskDown)
		put(t, d, log, "", api.ErrDiskDown)
		put(t, d, log, strings.Repeat("x", most+1), api.ErrDiskDown)
		sync(t, d, log, api.ErrDiskDown)
		swap(t, d, log, "x", api.ErrDiskDown)
		swap(t, d, log, strings.Repeat("x", most+1), api.ErrDiskDown)
		unread(t, d, log, api.ErrDiskDown)
	}
	isSure(t, d, 0, most)
	isSure(t, d, 1, 1)
	stands(t, d, true, 2)
	d.Up()
	has(t, d, 0, strings.Repeat("f", most), most)
	has(t, d, 1, "a", 1)
	stands(t, d, false, 2)
}
