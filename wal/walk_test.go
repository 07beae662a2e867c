package wal

import (
	"encoding/binary"
	"math/rand/v2"
	"slices"
	"strings"
	"testing"

	"moiety/api"
	"moiety/disk"
)

// plain is a wal as the chapter's words have it, step by step: its loads stand in a list.
type plain struct {
	d     *disk.Disk
	log   int
	loads []string
	sure  int
	dead  bool
}

// split is the loads of the frames with which b begins, and what stands behind these.
func split(b string) (loads []string, rest string) {
	for len(b) >= head {
		n := uint64(binary.BigEndian.Uint32([]byte(b)))
		if n > 65536 || n > uint64(len(b)-head) || framed(b[head:head+n]) != b[:head+n] {
			break
		}
		loads, b = append(loads, b[head:head+n]), b[head+n:]
	}
	return loads, b
}

func plainly(d *disk.Disk, log int) (*plain, []string, api.Errno) {
	if d == nil {
		return nil, nil, api.ErrWalDisk
	}
	b, err := d.Read(log)
	if err != api.OK {
		return nil, nil, err
	}
	loads, rest := split(string(b))
	if rest != "" {
		if err := d.Swap(log, []byte(joined(loads...))); err != api.OK {
			return nil, nil, err
		}
	}
	if d.Sure(log) != len(joined(loads...)) {
		if err := d.Sync(log); err != api.OK {
			return nil, nil, err
		}
	}
	return &plain{d: d, log: log, loads: loads, sure: len(loads)}, slices.Clone(loads), api.OK
}

// after is what became of the disk's act.
func (p *plain) after(err api.Errno, then func()) api.Errno {
	if err == api.ErrDiskDown {
		p.dead = true
	}
	if err == api.OK {
		then()
	}
	return err
}

// refusal is why a wal does nothing with loads, ahead of asking the disk.
func (p *plain) refusal(l []string) api.Errno {
	if p.dead {
		return api.ErrWalDead
	}
	for _, load := range l {
		if len(load) > 65536 {
			return api.ErrFrameLong
		}
	}
	return api.OK
}

func (p *plain) put(load string) api.Errno {
	if err := p.refusal([]string{load}); err != api.OK {
		return err
	}
	return p.after(p.d.Append(p.log, []byte(framed(load))), func() { p.loads = append(p.loads, load) })
}

func (p *plain) sync() api.Errno {
	if err := p.refusal(nil); err != api.OK {
		return err
	}
	return p.after(p.d.Sync(p.log), func() { p.sure = len(p.loads) })
}

func (p *plain) fresh(l []string) api.Errno {
	if err := p.refusal(l); err != api.OK {
		return err
	}
	return p.after(p.d.Swap(p.log, []byte(joined(l...))), func() { p.loads, p.sure = slices.Clone(l), len(l) })
}

// The kinds of calls: of a wal, and of its disk.
const (
	kindAppend = iota
	kindSync
	kindFresh
	kindOpen
	kindArm
	kindCrash
	kindUp
	kindBytes // bytes that come to stand in the log behind the wal's back
	kinds
)

// call is one call of any kind.
type call struct {
	kind, log, n int
	loads        []string
	keep         []int
}

// someCall is any call of wals of a disk with two logs.
func someCall(r *rand.Rand) call {
	c := call{kind: r.IntN(kinds), log: r.IntN(2), n: r.IntN(7) - 1, keep: []int{r.IntN(40) - 2, r.IntN(40) - 2}[:r.IntN(3)]}
	for range r.IntN(5) + 1 {
		c.loads = append(c.loads, strings.Repeat(string(rune('a'+r.IntN(26))), r.IntN(8)))
	}
	if r.IntN(15) == 0 {
		c.loads[r.IntN(len(c.loads))] = long(api.MaxFrame + r.IntN(3))
	}
	if (c.kind == kindCrash || c.kind == kindArm) && r.IntN(2) == 0 {
		c.kind = kindAppend
	}
	return c
}

// said is what a call answers, and how all stands then.
type said struct {
	err       api.Errno
	loads     string
	made      bool
	all, sure int
	logs      [2]string
	bytes     [2]int
	acts      int
	down      bool
}

// stands adds how a disk stands to what was said.
func (s *said) stands(d *disk.Disk) {
	for log := range 2 {
		b, _ := d.Read(log)
		s.logs[log], s.bytes[log] = string(b), d.Sure(log)
	}
	s.acts, s.down = d.Acts(), d.Down()
}

// toDisk is a call of a disk.
func (c call) toDisk(d *disk.Disk) (err api.Errno) {
	switch c.kind {
	case kindArm:
		d.Arm(c.n, c.keep)
	case kindCrash:
		d.Crash(c.keep)
	case kindUp:
		d.Up()
	case kindBytes:
		err = d.Append(c.log, []byte(joined(c.loads...)[:3+c.log*4]))
	}
	return err
}

// toWal is a call of the wals of a disk's two logs.
func (c call) toWal(d *disk.Disk, l *[2]*Wal) (s said) {
	switch c.kind {
	case kindAppend:
		s.err = l[c.log].Append([]byte(c.loads[0]))
	case kindSync:
		s.err = l[c.log].Sync()
	case kindFresh:
		s.err = l[c.log].Fresh(loads(c.loads[1:]))
	case kindOpen:
		w, loads, err := Open(d, c.log)
		s.err, s.loads, s.made = err, strings.Join(texts(loads), " "), w != nil
		if w != nil {
			l[c.log] = w
		}
	default:
		s.err = c.toDisk(d)
	}
	s.all, s.sure = l[c.log].Len(), l[c.log].Sure()
	s.stands(d)
	return s
}

// toPlain is a call of the plain wals of a disk's two logs.
func (c call) toPlain(d *disk.Disk, l *[2]*plain) (s said) {
	switch c.kind {
	case kindAppend:
		s.err = l[c.log].put(c.loads[0])
	case kindSync:
		s.err = l[c.log].sync()
	case kindFresh:
		s.err = l[c.log].fresh(c.loads[1:])
	case kindOpen:
		p, loads, err := plainly(d, c.log)
		s.err, s.loads, s.made = err, strings.Join(loads, " "), p != nil
		if p != nil {
			l[c.log] = p
		}
	default:
		s.err = c.toDisk(d)
	}
	s.all, s.sure = len(l[c.log].loads), l[c.log].sure
	s.stands(d)
	return s
}

// P8.1, P8.2: any calls, right and wrong ones, of two wals of one disk, whose power comes and goes, answer as the chapter's words have it, and leave wals and logs so.
func TestAnyCalls(t *testing.T) {
	r := rand.New(rand.NewPCG(8, 1))
	errs, reopened := map[api.Errno]int{}, 0
	for range 300 {
		d, e := made(t, 2), made(t, 2)
		wals, plains := [2]*Wal{}, [2]*plain{}
		for log := range 2 {
			wals[log] = opened(t, d, log)
			plains[log], _, _ = plainly(e, log)
		}
		for range 80 {
			c := someCall(r)
			got, want := c.toWal(d, &wals), c.toPlain(e, &plains)
			if got != want {
				t.Fatalf("%.300v: %.300v, want %.300v", c, got, want)
			}
			errs[got.err]++
			if got.made && got.loads != "" {
				reopened++
			}
		}
	}
	for _, err := range []api.Errno{api.OK, api.ErrDiskDown, api.ErrWalDead, api.ErrFrameLong} {
		if errs[err] < 50 {
			t.Error("too few of", err, errs)
		}
	}
	if reopened < 500 {
		t.Error("too seldom opened again:", reopened)
	}
}

// history is what a wal was told to keep, by what its calls answered: its loads, of which so many are sure.
type history struct {
	loads []string
	sure  int
}

// note takes a call of a wal in, unless it was refused.
func (h *history) note(c call, err api.Errno) {
	switch {
	case err != api.OK:
	case c.kind == kindAppend:
		h.loads = append(h.loads, c.loads[0])
	case c.kind == kindSync:
		h.sure = len(h.loads)
	case c.kind == kindFresh:
		h.loads, h.sure = slices.Clone(c.loads[1:]), len(c.loads)-1
	}
}

// lose is the power's going: the sure loads stay, and behind them those that are whole in the bytes that are kept.
func (h *history) lose(keep int) {
	h.sure += whole(h.loads[h.sure:], max(keep, 0))
	h.loads = h.loads[:h.sure]
}

// play is calls of one wal, of all kinds, one behind the other, each of which acts once.
func play() []call {
	return []call{
		{kind: kindAppend, loads: []string{""}}, {kind: kindAppend, loads: []string{"abc"}}, {kind: kindSync},
		{kind: kindAppend, loads: []string{"bb"}}, {kind: kindAppend, loads: []string{framed("q")}}, {kind: kindAppend, loads: []string{"c"}},
		{kind: kindFresh, loads: []string{"", "x", "yy", ""}}, {kind: kindAppend, loads: []string{"z"}}, {kind: kindSync}, {kind: kindSync},
		{kind: kindAppend, loads: []string{""}}, {kind: kindAppend, loads: []string{""}}, {kind: kindFresh, loads: []string{""}},
		{kind: kindAppend, loads: []string{"w"}}, {kind: kindAppend, loads: []string{"vvv"}}, {kind: kindAppend, loads: []string{"uu"}},
	}
}

// played plays the calls of log 0 that come ahead of the n-th act, in which the power goes, and is what the wal has then; the call that met the loss answers so, and those behind it that the wal is dead. If none meets it, the power goes behind the last one.
func played(t *testing.T, d *disk.Disk, n, keep int) *history {
	t.Helper()
	w, h := opened(t, d, 0), &history{}
	d.Arm(n, []int{keep})
	var wals [2]*Wal
	wals[0] = w
	for k, c := range play() {
		s := c.toWal(d, &wals)
		h.note(c, s.err)
		want := api.OK
		switch {
		case k == n-1:
			want = api.ErrDiskDown
		case k > n-1:
			want = api.ErrWalDead
		}
		if s.err != want {
			t.Fatalf("act %d, call %d: %d, want %d", n, k, s.err, want)
		}
		counted(t, w, len(h.loads), h.sure)
	}
	d.Crash([]int{keep})
	h.lose(keep)
	return h
}

// P8.3: the power goes ahead of each act of a play in turn, and each number of bytes is kept: the log, opened again, and once more, has the loads that were sure, and behind them those of the others that are whole in what is kept; then the wal goes on.
func TestLossAheadOfEachAct(t *testing.T) {
	for n := 1; n <= len(play())+1; n++ {
		for keep := -1; keep <= 42; keep++ {
			d := made(t, 1)
			h := played(t, d, n, keep)
			d.Up()
			opened(t, d, 0, h.loads...)
			acts := d.Acts()
			w := opened(t, d, 0, h.loads...)
			acted(t, d, acts)
			put(t, w, "later", api.OK)
			sync(t, w, api.OK)
			put(t, w, "lost", api.OK)
			d.Crash([]int{11})
			d.Up()
			opened(t, d, 0, append(h.loads, "later")...)
		}
	}
}

// P8.3: the same, and the power goes again in the Open behind it: what is opened at last is the same.
func TestLossInOpenBehindALoss(t *testing.T) {
	met := 0
	for n := 1; n <= len(play())+1; n++ {
		for keep := -1; keep <= 42; keep++ {
			d := made(t, 1)
			h := played(t, d, n, keep)
			for range 3 {
				d.Up()
				d.Arm(1, []int{keep})
				if _, _, err := Open(d, 0); err == api.ErrDiskDown {
					met++
				}
				d.Arm(0, nil)
			}
			d.Up()
			opened(t, d, 0, h.loads...)
			opened(t, d, 0, h.loads...)
		}
	}
	if met < 500 {
		t.Error("too seldom in Open:", met)
	}
}

// P8.3: as much is kept of a frame as may be, but not all of it, also of the greatest ones.
func TestLossOfGreatLoads(t *testing.T) {
	for _, n := range []int{0, 1, 255, 256, api.MaxFrame - 1, api.MaxFrame} {
		for _, less := range []int{0, 1, n, n + 1, n + 7, n + 8} {
			d, w := begun(t, 1, "a")
			put(t, w, long(n), api.OK)
			d.Crash([]int{n + head - less})
			d.Up()
			want := []string{"a", long(n)}
			if less > 0 {
				want = want[:1]
			}
			opened(t, d, 0, want...)
		}
	}
}

// walk is two wals of one disk, and what each was told to keep.
type walk struct {
	d    *disk.Disk
	wals [2]*Wal
	told [2]history
	lost int // losses of power
	met  int // of these, in Open
}

// reopen opens both logs, maybe with a loss of power in the one or the other, and again, till both are open.
func (w *walk) reopen(t *testing.T, r *rand.Rand) {
	t.Helper()
	for log := 0; log < 2; {
		w.d.Up()
		keep := []int{r.IntN(30) - 2, r.IntN(30) - 2}
		w.d.Arm(r.IntN(3), keep)
		v, loads, err := Open(w.d, log)
		if err == api.ErrDiskDown {
			w.lose(keep)
			w.met++
			log = 0
			continue
		}
		w.d.Arm(0, nil)
		h := &w.told[log]
		h.sure = len(h.loads)
		if err != api.OK || !slices.Equal(texts(loads), h.loads) {
			t.Fatalf("Open(%d): %q, %d, want %q", log, loads, err, h.loads)
		}
		counted(t, v, len(h.loads), h.sure)
		has(t, w.d, log, joined(h.loads...), len(joined(h.loads...)))
		w.wals[log] = v
		log++
	}
}

// lose is the power's going, with so many bytes of each log kept.
func (w *walk) lose(keep []int) {
	w.lost++
	for log := range w.told {
		n := 0
		if log < len(keep) {
			n = keep[log]
		}
		w.told[log].lose(n)
	}
}

// step is one call; the power may go ahead of it or in it, and then comes back.
func (w *walk) step(t *testing.T, r *rand.Rand) {
	t.Helper()
	c := someCall(r)
	switch c.kind {
	case kindAppend, kindSync, kindFresh:
		if r.IntN(4) == 0 {
			w.d.Arm(1, c.keep)
		}
		s := c.toWal(w.d, &w.wals)
		w.d.Arm(0, nil)
		w.told[c.log].note(c, s.err)
	case kindCrash:
		w.d.Crash(c.keep)
	case kindOpen: // also with power, and with loads that aren't sure
		w.reopen(t, r)
	}
	if w.d.Down() {
		w.lose(c.keep)
		w.reopen(t, r)
		for log := range w.told {
			opened(t, w.d, log, w.told[log].loads...)
		}
	}
}

// P8.3: in any play of two wals of one disk, wherever the power goes, in their calls, between them, or when they are opened, each log has the loads that were sure, and behind them those of the others that are whole in what is kept.
func TestLossesInAnyPlay(t *testing.T) {
	r := rand.New(rand.NewPCG(8, 3))
	lost, met := 0, 0
	for range 400 {
		w := walk{d: made(t, 2)}
		w.reopen(t, r)
		for range 60 {
			w.step(t, r)
		}
		lost, met = lost+w.lost, met+w.met
	}
	if lost < 2000 || met < 400 {
		t.Error("the power went too seldom:", lost, met)
	}
}

// P1: every call answers, at all arguments; beside an error nothing else is told.
func TestAllAnswer(t *testing.T) {
	for _, d := range []*disk.Disk{nil, made(t, 2), laid(t, "no frame at all", 4)} {
		for _, log := range append(noLogs(2), 0, 1) {
			w, l, err := Open(d, log)
			if (w == nil) != (err != api.OK) || err != api.OK && len(l) != 0 {
				t.Error(log, w, l, err)
			}
			if w == nil {
				continue
			}
			for _, load := range []string{"", "a", long(api.MaxFrame), long(api.MaxFrame + 1), long(api.MaxLog + 1)} {
				w.Append([]byte(load))
				w.Fresh(loads([]string{load, load}))
				w.Sync()
			}
			if w.Len() != 2 || w.Sure() != 2 {
				t.Error(w.Len(), w.Sure())
			}
		}
	}
}
