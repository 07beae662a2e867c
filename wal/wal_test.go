package wal

import (
	"encoding/binary"
	"hash/crc32"
	"math"
	"slices"
	"strings"
	"testing"

	"moiety/api"
	"moiety/disk"
)

const head = 8 // bytes of a frame ahead of its load

// framed is the frame of a load, by the library's own check sum.
func framed(load string) string {
	length := binary.BigEndian.AppendUint32(nil, uint32(len(load)))
	sum := crc32.ChecksumIEEE(append(slices.Clone(length), load...))
	return string(binary.BigEndian.AppendUint32(length, sum)) + load
}

// joined is the frames of loads, one behind the other.
func joined(loads ...string) string {
	var b strings.Builder
	for _, load := range loads {
		b.WriteString(framed(load))
	}
	return b.String()
}

// long is a load of so many bytes.
func long(n int) string { return strings.Repeat("l", n) }

// made is a new disk.
func made(t *testing.T, logs int) *disk.Disk {
	t.Helper()
	d, err := disk.New(logs)
	if err != api.OK {
		t.Fatal(logs, err)
	}
	return d
}

// laid is a new disk with two logs; the first one has these bytes, so many of them sure, and the second one x, which isn't sure. That took three acts.
func laid(t *testing.T, b string, sure int) *disk.Disk {
	t.Helper()
	d := made(t, 2)
	if d.Swap(0, []byte(b[:sure])) != api.OK || d.Append(0, []byte(b[sure:])) != api.OK || d.Append(1, []byte("x")) != api.OK {
		t.Fatal("not laid")
	}
	return d
}

// begun is a wal of the first log of a new disk with two, of loads of which so many are sure.
func begun(t *testing.T, sure int, loads ...string) (*disk.Disk, *Wal) {
	t.Helper()
	d := made(t, 2)
	w := opened(t, d, 0)
	for k, load := range loads {
		put(t, w, load, api.OK)
		if k == sure-1 {
			sync(t, w, api.OK)
		}
	}
	counted(t, w, len(loads), sure)
	return d, w
}

// opened opens a log, which must have just these loads, and all of them sure then.
func opened(t *testing.T, d *disk.Disk, log int, want ...string) *Wal {
	t.Helper()
	w, loads, err := Open(d, log)
	if w == nil || err != api.OK {
		t.Fatalf("Open(%d) = %v, %d", log, w, err)
	}
	told(t, loads, want)
	counted(t, w, len(want), len(want))
	has(t, d, log, joined(want...), len(joined(want...)))
	return w
}

// told holds loads against what they are to be.
func told(t *testing.T, loads [][]byte, want []string) {
	t.Helper()
	if got := texts(loads); !slices.Equal(got, want) {
		t.Errorf("loads %.60q, want %.60q", got, want)
	}
}

// texts is loads as texts.
func texts(loads [][]byte) []string {
	var l []string
	for _, load := range loads {
		l = append(l, string(load))
	}
	return l
}

// loads is texts as loads.
func loads(l []string) [][]byte {
	var loads [][]byte
	for _, s := range l {
		loads = append(loads, []byte(s))
	}
	return loads
}

// unopened opens a log, which must be refused.
func unopened(t *testing.T, d *disk.Disk, log int, want api.Errno) {
	t.Helper()
	if w, loads, err := Open(d, log); w != nil || len(loads) != 0 || err != want {
		t.Errorf("Open(%d) = %v, %.60q, %d, want %d", log, w, loads, err, want)
	}
}

// put appends a load, and holds the answer against what it is to be.
func put(t *testing.T, w *Wal, load string, want api.Errno) {
	t.Helper()
	if err := w.Append([]byte(load)); err != want {
		t.Errorf("Append(%.20q) of %d bytes = %d, want %d", load, len(load), err, want)
	}
}

// sync makes all loads sure, and holds the answer against what it is to be.
func sync(t *testing.T, w *Wal, want api.Errno) {
	t.Helper()
	if err := w.Sync(); err != want {
		t.Errorf("Sync() = %d, want %d", err, want)
	}
}

// fresh gives other loads, and holds the answer against what it is to be.
func fresh(t *testing.T, w *Wal, want api.Errno, l ...string) {
	t.Helper()
	if err := w.Fresh(loads(l)); err != want {
		t.Errorf("Fresh(%.20q) of %d loads = %d, want %d", l, len(l), err, want)
	}
}

// counted holds how many loads there are, and how many of them are sure, against what that is to be.
func counted(t *testing.T, w *Wal, all, sure int) {
	t.Helper()
	if w.Len() != all || w.Sure() != sure {
		t.Errorf("%d loads, %d sure, want %d, %d", w.Len(), w.Sure(), all, sure)
	}
}

// has holds the bytes of a log, and how many of them are sure, against what these are to be.
func has(t *testing.T, d *disk.Disk, log int, want string, sure int) {
	t.Helper()
	b, err := d.Read(log)
	if err != api.OK || string(b) != want || d.Sure(log) != sure {
		t.Errorf("log %d: %.40q of %d bytes, %d, %d sure, want %.40q of %d, %d", log, b, len(b), err, d.Sure(log), want, len(want), sure)
	}
}

// acted holds how many acts a disk saw against how many these are to be.
func acted(t *testing.T, d *disk.Disk, want int) {
	t.Helper()
	if d.Acts() != want {
		t.Errorf("%d acts, want %d", d.Acts(), want)
	}
}

// P8.1, P8.2, P8.3: the chapter's examples.
func TestExamples(t *testing.T) {
	for _, c := range []struct {
		keep int
		want []string
	}{{9, []string{"a"}}, {10, []string{"a", "bb"}}} {
		d := made(t, 1)
		w := opened(t, d, 0)
		put(t, w, "a", api.OK)
		sync(t, w, api.OK)
		put(t, w, "bb", api.OK)
		d.Crash([]int{c.keep})
		d.Up()
		if b, err := d.Read(0); err != api.OK || len(b) != 9+c.keep {
			t.Error(len(b), err)
		}
		opened(t, d, 0, c.want...)
		if b, err := d.Read(0); err != api.OK || len(b) != c.keep/10*10+9 {
			t.Error(len(b), err)
		}
	}
}

// noLogs is numbers that are no logs of a disk with n of them.
func noLogs(n int) []int {
	return []int{-1, -n, n, n + 1, api.MaxLogs, 1 << 31, -1 << 31, math.MinInt, math.MinInt + 1, math.MaxInt - 1, math.MaxInt}
}

// P8.1: no disk, whatever log is meant.
func TestOpenNoDisk(t *testing.T) {
	for _, log := range append(noLogs(2), 0, 1) {
		unopened(t, nil, log, api.ErrWalDisk)
	}
}

// P8.1: no such log, with power and without it; nothing comes of it.
func TestOpenNoLog(t *testing.T) {
	d := laid(t, joined("a")+"tail", 3)
	for range 2 {
		for _, log := range noLogs(2) {
			unopened(t, d, log, api.ErrDiskLog)
		}
		d.Crash([]int{2, 1})
	}
	d.Up()
	has(t, d, 0, joined("a")[:5], 5)
	has(t, d, 1, "x", 1)
	acted(t, d, 3)
}

// P8.1: a disk without power; it is as it was, and is opened once the power is back.
func TestOpenDown(t *testing.T) {
	d := laid(t, joined("a", "bb")+"tail", 9)
	d.Crash([]int{12, 1})
	for log := range 2 {
		unopened(t, d, log, api.ErrDiskDown)
	}
	d.Up()
	has(t, d, 0, joined("a", "bb")+"ta", 21)
	acted(t, d, 3)
	opened(t, d, 0, "a", "bb")
}

// P8.1: each log of a new disk is opened without any act.
func TestOpenEmpty(t *testing.T) {
	for logs := 1; logs <= api.MaxLogs; logs++ {
		d := made(t, logs)
		for log := range logs {
			opened(t, d, log)
		}
		acted(t, d, 0)
	}
}

// someLoads is loads of all kinds: none, one byte, noughts, such that look like frames or a length.
func someLoads() []string {
	return []string{"a", "", "bb", "\x00", "\x00\x00\x00\x00\x00\x00\x00\x00", framed("a"), "", framed(""), "\x00\x00\x00\x01", "\xff\xff\xff\xff", "a", long(300)}
}

// P8.1: a log of frames alone is told, and is synced just if not all of its bytes are sure.
func TestOpenFrames(t *testing.T) {
	for n := range len(someLoads()) + 1 {
		l := someLoads()[:n]
		b := joined(l...)
		for sure := range len(b) + 1 {
			if sure > 30 && sure < len(b)-10 {
				continue
			}
			d := laid(t, b, sure)
			opened(t, d, 0, l...)
			want := 4
			if sure == len(b) {
				want = 3
			}
			acted(t, d, want)
			has(t, d, 1, "x", 0)
		}
	}
}

// turned is bytes of which one is another one.
func turned(b string, k int) string { return b[:k] + string([]byte{b[k] ^ 1}) + b[k+1:] }

// noFrames is bytes that begin with no frame: a frame that is cut anywhere, one of which a byte is turned, one that says to be too long, and such with frames behind them.
func noFrames() []string {
	l := []string{"\x00\x01\x00\x01" + long(api.MaxFrame+5), "\xff\xff\xff\xff" + long(20), "\x00\x00\x00\x00\x00\x00\x00\x00", "no frame at all"}
	whole := framed("load")
	for k := range len(whole) {
		l = append(l, turned(whole, k), turned(whole, k)+joined("a", ""))
		if k > 0 {
			l = append(l, whole[:k])
		}
	}
	return append(l, whole[:9]+joined("a", ""), long(api.MaxFrame*2))
}

// P8.1: what stands behind the frames is taken off by one Swap, however much of the log is sure; so is what stands there alone. Another log is let be.
func TestOpenBehind(t *testing.T) {
	for _, tail := range noFrames() {
		for _, l := range [][]string{nil, {""}, {"a"}, {"bb", "", "a"}} {
			b := joined(l...)
			for _, sure := range []int{0, len(b) / 2, len(b), len(b) + 1, len(b) + len(tail)} {
				d := laid(t, b+tail, sure)
				opened(t, d, 0, l...)
				acted(t, d, 4)
				has(t, d, 1, "x", 0)
			}
		}
	}
}

// P8.1: what was opened once is the same when it is opened again, and needs no act then.
func TestOpenAgain(t *testing.T) {
	for _, tail := range noFrames() {
		d := laid(t, joined("a", "")+tail, 4)
		opened(t, d, 0, "a", "")
		opened(t, d, 0, "a", "")
		acted(t, d, 4)
	}
}

// P8.1: a log that is full to its last byte is opened: of frames alone, and with one byte behind them that is none.
func TestOpenFull(t *testing.T) {
	l := fullLoads()
	d := laid(t, joined(l...), 0)
	opened(t, d, 0, l...)
	l[len(l)-1] = l[len(l)-1][1:]
	d = laid(t, joined(l...)+"t", api.MaxLog)
	opened(t, d, 0, l...)
	acted(t, d, 4)
}

// fullLoads is loads whose frames fill a log to its last byte.
func fullLoads() []string {
	var l []string
	room := api.MaxLog
	for room > head+api.MaxFrame {
		l = append(l, long(api.MaxFrame))
		room -= head + api.MaxFrame
	}
	return append(l, long(room-head))
}

// P8.2: loads come to stand behind all, as frames, by one act each; no Append makes any of them sure.
func TestAppend(t *testing.T) {
	d := made(t, 2)
	w := opened(t, d, 1)
	l := someLoads()
	for k, load := range l {
		put(t, w, load, api.OK)
		counted(t, w, k+1, 0)
		has(t, d, 1, joined(l[:k+1]...), 0)
		acted(t, d, k+1)
	}
	has(t, d, 0, "", 0)
	opened(t, d, 1, l...)
}

// P8.2: nil and no bytes are one load, which is kept as any other one.
func TestAppendNothing(t *testing.T) {
	d := made(t, 1)
	w := opened(t, d, 0)
	for k, load := range [][]byte{nil, {}, nil} {
		if err := w.Append(load); err != api.OK {
			t.Error(err)
		}
		counted(t, w, k+1, 0)
	}
	sync(t, w, api.OK)
	has(t, d, 0, joined("", "", ""), 24)
	opened(t, d, 0, "", "", "")
}

// P8.2: Sync makes all loads sure, by one act, also where there are none and where all are sure.
func TestSync(t *testing.T) {
	d := made(t, 1)
	w := opened(t, d, 0)
	sync(t, w, api.OK)
	counted(t, w, 0, 0)
	acted(t, d, 1)
	put(t, w, "a", api.OK)
	put(t, w, "bb", api.OK)
	for n := range 3 {
		sync(t, w, api.OK)
		counted(t, w, 2, 2)
		has(t, d, 0, joined("a", "bb"), 19)
		acted(t, d, 4+n)
	}
	put(t, w, "", api.OK)
	counted(t, w, 3, 2)
	has(t, d, 0, joined("a", "bb", ""), 19)
	sync(t, w, api.OK)
	counted(t, w, 3, 3)
}

// P8.2: a wal that was opened with loads counts them, and goes on behind them.
func TestGoesOn(t *testing.T) {
	d := laid(t, joined("a", "bb")+"tail", 0)
	w := opened(t, d, 0, "a", "bb")
	put(t, w, "c", api.OK)
	counted(t, w, 3, 2)
	has(t, d, 0, joined("a", "bb", "c"), 19)
	sync(t, w, api.OK)
	opened(t, d, 0, "a", "bb", "c")
}

// P8.2: Fresh gives just its loads, all sure, by one act: more, fewer, none, nil, many; what comes later stands behind them.
func TestFresh(t *testing.T) {
	d, w := begun(t, 1, "a", "bb")
	many := slices.Repeat(someLoads(), 40)
	for k, l := range [][]string{{"x"}, {"", "y", "zzz"}, {}, {""}, nil, many, {"y"}, {"y"}, slices.Repeat([]string{""}, 5000)} {
		acts := d.Acts()
		fresh(t, w, api.OK, l...)
		acted(t, d, acts+1)
		counted(t, w, len(l), len(l))
		has(t, d, 0, joined(l...), len(joined(l...)))
		put(t, w, "more", api.OK)
		counted(t, w, len(l)+1, len(l))
		if k%2 == 0 {
			opened(t, d, 0, append(slices.Clone(l), "more")...)
		}
	}
	if err := w.Fresh([][]byte{nil, {}, []byte("a"), nil}); err != api.OK {
		t.Error(err)
	}
	opened(t, d, 0, "", "", "a", "")
	has(t, d, 1, "", 0)
}

// P8.2: a load of MaxFrame bytes is taken, and one of more isn't, which changes nothing and is no act.
func TestLong(t *testing.T) {
	d, w := begun(t, 1, "a", "bb")
	d.Arm(3, nil)
	for _, n := range []int{api.MaxFrame + 1, api.MaxFrame + 2, 2 * api.MaxFrame, api.MaxLog, api.MaxLog + 1} {
		put(t, w, long(n), api.ErrFrameLong)
		for _, l := range [][]string{{long(n)}, {long(n), "a", "b"}, {"a", long(n), "b"}, {"a", "b", long(n)}} {
			fresh(t, w, api.ErrFrameLong, l...)
		}
		counted(t, w, 2, 1)
		has(t, d, 0, joined("a", "bb"), 9)
	}
	acted(t, d, 3)
	put(t, w, long(api.MaxFrame), api.OK)
	counted(t, w, 3, 1)
	fresh(t, w, api.OK, "a", long(api.MaxFrame), long(api.MaxFrame-1))
	opened(t, d, 0, "a", long(api.MaxFrame), long(api.MaxFrame-1))
}

// P8.2: a log takes frames up to its last byte, and none behind it; what is too much changes nothing, is no act, and the wal goes on.
func TestAppendFull(t *testing.T) {
	l := fullLoads()
	d := made(t, 1)
	w := opened(t, d, 0)
	last := len(l) - 1
	fresh(t, w, api.OK, l[:last]...)
	acts := d.Acts()
	d.Arm(3, nil)
	for _, load := range []string{l[last] + "l", long(api.MaxFrame)} {
		put(t, w, load, api.ErrDiskFull)
		counted(t, w, last, last)
	}
	put(t, w, long(api.MaxFrame+1), api.ErrFrameLong)
	put(t, w, l[last], api.OK)
	put(t, w, "", api.ErrDiskFull)
	counted(t, w, last+1, last)
	has(t, d, 0, joined(l...), len(joined(l[:last]...)))
	acted(t, d, acts+1)
	sync(t, w, api.OK)
	counted(t, w, last+1, last+1)
	sync(t, w, api.ErrDiskDown) // the third act: what there was no room for was none
}

// P8.2: Fresh takes frames up to a log's last byte, however full that is, and not one byte more; what is too much changes nothing.
func TestFreshFull(t *testing.T) {
	l := fullLoads()
	d, w := begun(t, 1, "a", "bb")
	tooMuch := append(slices.Clone(l), "")
	aLittle := append(slices.Clone(l[1:]), l[0]+"l")
	aByte := append(slices.Clone(l[:len(l)-1]), l[len(l)-1]+"l")
	for range 2 {
		fresh(t, w, api.ErrDiskFull, tooMuch...)
		fresh(t, w, api.ErrDiskFull, aByte...)
		fresh(t, w, api.ErrDiskFull, slices.Repeat([]string{""}, 1<<19+1)...)
		fresh(t, w, api.ErrDiskFull, slices.Repeat([]string{l[0]}, 300)...)
		fresh(t, w, api.ErrFrameLong, aLittle...)
		fresh(t, w, api.ErrFrameLong, append(slices.Clone(tooMuch), long(api.MaxFrame+1))...)
		acted(t, d, 3)
		counted(t, w, 2, 1)
	}
	has(t, d, 0, joined("a", "bb"), 9)
	fresh(t, w, api.OK, l...)
	counted(t, w, len(l), len(l))
	has(t, d, 0, joined(l...), api.MaxLog)
	fresh(t, w, api.OK, slices.Repeat([]string{""}, 1<<19)...)
	counted(t, w, 1<<19, 1<<19)
	if d.Sure(0) != api.MaxLog {
		t.Error(d.Sure(0))
	}
	fresh(t, w, api.OK, "y")
	put(t, w, "", api.OK)
	opened(t, d, 0, "y", "")
}

// P8.1, P8.2: each log of a disk has a wal of its own; none knows of the others, nor of another disk's.
func TestLogsStandAlone(t *testing.T) {
	d, e := made(t, 3), made(t, 3)
	a, b, c := opened(t, d, 0), opened(t, d, 2), opened(t, e, 0)
	put(t, a, "a", api.OK)
	put(t, b, "bb", api.OK)
	put(t, b, "b", api.OK)
	sync(t, b, api.OK)
	counted(t, a, 1, 0)
	counted(t, b, 2, 2)
	counted(t, c, 0, 0)
	fresh(t, a, api.OK, "x", "y", "z")
	put(t, b, "q", api.OK)
	counted(t, a, 3, 3)
	counted(t, b, 3, 2)
	has(t, d, 0, joined("x", "y", "z"), 27)
	has(t, d, 1, "", 0)
	has(t, d, 2, joined("bb", "b", "q"), 19)
	has(t, e, 0, "", 0)
	d.Crash(nil)
	put(t, a, "w", api.ErrDiskDown)
	put(t, c, "w", api.OK)
	d.Up()
	opened(t, d, 0, "x", "y", "z")
	opened(t, d, 2, "bb", "b")
	opened(t, e, 0, "w")
}
