package disk

import (
	"math"
	"math/rand/v2"
	"slices"
	"strings"
	"testing"

	"moiety/api"
)

// plain is a disk as the chapter's words have it: of each log what is sure, and what isn't.
type plain struct {
	sure, rest []string
	acts       int
	down       bool
	armed      bool
	n          int // of the acts that are to come, the one ahead of which the power goes
	keep       []int
}

func plainly(n int) *plain { return &plain{sure: make([]string, n), rest: make([]string, n)} }

// refusal is why an act is refused, of a log that would have so many bytes; nothing is counted yet.
func (p *plain) refusal(log int, size func() int) api.Errno {
	if log < 0 || log > len(p.sure)-1 {
		return api.ErrDiskLog
	}
	if p.down {
		return api.ErrDiskDown
	}
	if size() > 1<<22 {
		return api.ErrDiskFull
	}
	return api.OK
}

// counted is whether the power went ahead of an act that wouldn't be refused otherwise.
func (p *plain) counted() api.Errno {
	if p.armed {
		p.n--
		if p.n == 0 {
			p.Crash(p.keep)
			return api.ErrDiskDown
		}
	}
	p.acts++
	return api.OK
}

func (p *plain) Append(log int, b []byte) api.Errno {
	if err := p.refusal(log, func() int { return len(p.sure[log]) + len(p.rest[log]) + len(b) }); err != api.OK {
		return err
	}
	if err := p.counted(); err != api.OK {
		return err
	}
	p.rest[log] += string(b)
	return api.OK
}

func (p *plain) Sync(log int) api.Errno {
	if err := p.refusal(log, func() int { return 0 }); err != api.OK {
		return err
	}
	if err := p.counted(); err != api.OK {
		return err
	}
	p.sure[log], p.rest[log] = p.sure[log]+p.rest[log], ""
	return api.OK
}

func (p *plain) Swap(log int, b []byte) api.Errno {
	if err := p.refusal(log, func() int { return len(b) }); err != api.OK {
		return err
	}
	if err := p.counted(); err != api.OK {
		return err
	}
	p.sure[log], p.rest[log] = string(b), ""
	return api.OK
}

func (p *plain) Read(log int) ([]byte, api.Errno) {
	if err := p.refusal(log, func() int { return 0 }); err != api.OK {
		return nil, err
	}
	return []byte(p.sure[log] + p.rest[log]), api.OK
}

func (p *plain) Arm(n int, keep []int) {
	p.armed, p.n, p.keep = n >= 1, n, slices.Clone(keep)
}

func (p *plain) Crash(keep []int) {
	if p.down {
		return
	}
	p.down, p.armed = true, false
	for log, rest := range p.rest {
		k := 0
		if log < len(keep) && keep[log] > 0 {
			k = min(keep[log], len(rest))
		}
		p.sure[log], p.rest[log] = p.sure[log]+rest[:k], ""
	}
}

func (p *plain) Up()        { p.down = false }
func (p *plain) Down() bool { return p.down }
func (p *plain) Acts() int  { return p.acts }

func (p *plain) Sure(log int) int {
	if log < 0 || log > len(p.sure)-1 {
		return 0
	}
	return len(p.sure[log])
}

// player is what both a disk and a plain one can be asked.
type player interface {
	Append(log int, b []byte) api.Errno
	Sync(log int) api.Errno
	Swap(log int, b []byte) api.Errno
	Read(log int) ([]byte, api.Errno)
	Arm(n int, keep []int)
	Crash(keep []int)
	Up()
	Down() bool
	Acts() int
	Sure(log int) int
}

// The kinds of calls.
const (
	kindAppend = iota
	kindSync
	kindSwap
	kindRead
	kindArm
	kindCrash
	kindUp
	kinds
)

// call is one call of any kind, by arguments of any kind.
type call struct {
	kind, log, n int
	b            string
	keep         []int
}

// said is what a call answers, and how the disk stands then.
type said struct {
	b    string
	err  api.Errno
	down bool
	acts int
	sure int
}

func (k call) to(d player) (l said) {
	switch k.kind {
	case kindAppend:
		l.err = d.Append(k.log, []byte(k.b))
	case kindSync:
		l.err = d.Sync(k.log)
	case kindSwap:
		l.err = d.Swap(k.log, []byte(k.b))
	case kindRead:
		var b []byte
		b, l.err = d.Read(k.log)
		l.b = string(b)
	case kindArm:
		d.Arm(k.n, k.keep)
	case kindCrash:
		d.Crash(k.keep)
	case kindUp:
		d.Up()
	}
	l.down, l.acts, l.sure = d.Down(), d.Acts(), d.Sure(k.log)
	return l
}

// someKeep is a list of any length, of numbers of any kind.
func someKeep(r *rand.Rand) []int {
	l := make([]int, r.IntN(api.MaxLogs+3))
	for k := range l {
		l[k] = r.IntN(12) - 3
		if r.IntN(20) == 0 {
			l[k] = []int{math.MinInt, math.MaxInt, 1 << 31, -1 << 31, most}[r.IntN(5)]
		}
	}
	return l[:len(l)/(1+r.IntN(4))]
}

// someCall is any call of a disk with so many logs: for the most part one that may be, and more acts than losses of power.
func someCall(r *rand.Rand, logs int) call {
	k := call{kind: r.IntN(kinds), log: r.IntN(logs), n: r.IntN(9) - 1, keep: someKeep(r)}
	k.b = strings.Repeat(string(rune('a'+r.IntN(26))), r.IntN(8))
	switch r.IntN(40) {
	case 0:
		k.log = noLogs(logs)[r.IntN(5)]
	case 1:
		k.log = noLogs(logs)[r.IntN(len(noLogs(logs)))]
	case 2:
		k.n = []int{math.MinInt, math.MaxInt}[r.IntN(2)]
	}
	if k.kind == kindCrash && r.IntN(2) == 0 {
		k.kind = kindAppend
	}
	return k
}

// compare holds all of a disk against all of a plain one.
func compare(t *testing.T, d *Disk, p *plain, logs int) {
	t.Helper()
	if d.Down() != p.Down() || d.Acts() != p.Acts() {
		t.Fatalf("Down %v, Acts %d, want %v, %d", d.Down(), d.Acts(), p.Down(), p.Acts())
	}
	for log := range logs {
		got, err := d.Read(log)
		want, wantErr := p.Read(log)
		if string(got) != string(want) || err != wantErr || d.Sure(log) != p.Sure(log) {
			t.Fatalf("log %d: %.40q, %d, %d sure, want %.40q, %d, %d", log, got, err, d.Sure(log), want, wantErr, p.Sure(log))
		}
	}
}

// P7.1, P7.2: any calls, right and wrong ones, answer as the chapter's words have it, and leave the disk so.
func TestAnyCalls(t *testing.T) {
	r := rand.New(rand.NewPCG(7, 1))
	errs, lost := map[api.Errno]int{}, 0
	for range 40 {
		for logs := 1; logs <= api.MaxLogs; logs++ {
			d, p := made(t, logs), plainly(logs)
			for range 80 {
				k, was := someCall(r, logs), d.Down()
				got, want := k.to(d), k.to(p)
				if got != want {
					t.Fatalf("%d logs, %v: %v, want %v", logs, k, got, want)
				}
				compare(t, d, p, logs)
				errs[got.err]++
				if !was && d.Down() {
					lost++
				}
			}
		}
	}
	for _, err := range []api.Errno{api.OK, api.ErrDiskDown, api.ErrDiskLog} {
		if errs[err] < 500 {
			t.Error("too few of", err, errs)
		}
	}
	if lost < 2000 {
		t.Error("the power went too seldom:", lost)
	}
}

// P7.1, P7.2: any calls of logs that are all but full; what would be too much is refused, and is no act.
func TestAnyCallsNearlyFull(t *testing.T) {
	r := rand.New(rand.NewPCG(7, 2))
	great, tooGreat := strings.Repeat("g", most-4), strings.Repeat("h", most+1)
	errs := map[api.Errno]int{}
	for range 8 {
		d, p := made(t, 2), plainly(2)
		for range 60 {
			k := someCall(r, 2)
			k.log = r.IntN(2)
			switch {
			case k.kind == kindSwap && r.IntN(4) == 0:
				k.b = tooGreat
			case k.kind == kindSwap:
				k.b = great
			}
			got, want := k.to(d), k.to(p)
			if got != want {
				t.Fatalf("%d, log %d, %.20q: %.40v, want %.40v", k.kind, k.log, k.b, got, want)
			}
			errs[got.err]++
		}
		compare(t, d, p, 2)
	}
	if errs[api.ErrDiskFull] < 20 {
		t.Error("too few are full:", errs)
	}
}

// kept is what a log has, and how much of it is sure.
type kept struct {
	b    string
	sure int
}

// allOf is what all logs of a disk with power have.
func allOf(t *testing.T, d *Disk, logs int) []kept {
	t.Helper()
	l := make([]kept, logs)
	for log := range l {
		b, err := d.Read(log)
		if err != api.OK {
			t.Fatal(log, err)
		}
		l[log] = kept{string(b), d.Sure(log)}
	}
	return l
}

// checkBeginnings holds what logs have, now that the power is back, against what they had.
func checkBeginnings(t *testing.T, had, have []kept) {
	t.Helper()
	for log := range had {
		if !strings.HasPrefix(had[log].b, have[log].b) || len(have[log].b) < had[log].sure || have[log].sure != len(have[log].b) {
			t.Errorf("log %d: %v, had %v", log, have[log], had[log])
		}
	}
}

// P7.3: whenever the power goes, by Crash or by what was armed, each log has a beginning of what it had, and all that was sure; and all of it is sure.
func TestBeginnings(t *testing.T) {
	r := rand.New(rand.NewPCG(7, 3))
	crashed, went, cut := 0, 0, 0
	for range 2000 {
		logs := 1 + r.IntN(api.MaxLogs)
		d := made(t, logs)
		for range 30 {
			had, k := allOf(t, d, logs), someCall(r, logs)
			acts := d.Acts()
			k.to(d)
			if !d.Down() {
				continue
			}
			if d.Acts() != acts {
				t.Fatal("the power went, and an act was done:", k)
			}
			if k.kind == kindCrash {
				crashed++
			} else {
				went++
			}
			d.Up()
			have := allOf(t, d, logs)
			checkBeginnings(t, had, have)
			if !slices.Equal(had, have) {
				cut++
			}
		}
	}
	if crashed < 1000 || went < 1000 || cut < 1000 {
		t.Error("too few losses of power:", crashed, went, cut)
	}
}

// P7.3: with the power going ahead of each act of a play in turn, and each number of bytes kept, the logs have what the acts ahead of it came to, or a beginning of that.
func TestLossAheadOfEachAct(t *testing.T) {
	play := []call{
		{kind: kindAppend, log: 0, b: "abcd"}, {kind: kindSync, log: 0}, {kind: kindAppend, log: 0, b: "ef"},
		{kind: kindAppend, log: 1, b: "uvw"}, {kind: kindSwap, log: 0, b: "xy"}, {kind: kindAppend, log: 0, b: "zzz"},
		{kind: kindSync, log: 1}, {kind: kindSwap, log: 1, b: ""}, {kind: kindAppend, log: 1, b: "q"}, {kind: kindSync, log: 0},
	}
	for n := 1; n <= len(play)+1; n++ {
		for keep := -1; keep <= 5; keep++ {
			armed, free := made(t, 2), made(t, 2)
			armed.Arm(n, []int{keep, keep})
			for k, c := range play[:n-1] {
				if got, want := c.to(armed), c.to(free); got != want || got.err != api.OK {
					t.Fatal(n, k, got, want)
				}
			}
			sync(t, armed, 1, api.ErrDiskDown)
			armed.Up()
			had, have := allOf(t, free, 2), allOf(t, armed, 2)
			checkBeginnings(t, had, have)
			for log := range had {
				if want := min(had[log].sure+max(keep, 0), len(had[log].b)); len(have[log].b) != want {
					t.Errorf("act %d, keep %d, log %d: %v, had %v", n, keep, log, have[log], had[log])
				}
			}
		}
	}
}

// P1: every call answers, at all arguments, with power and without it; beside an error there are no bytes.
func TestAllAnswer(t *testing.T) {
	for _, n := range append(noLogs(3), 0, 1, 2, 3, api.MaxLogs) {
		d, err := New(n)
		if (d == nil) != (err != api.OK) || d == nil && err != api.ErrDiskLog {
			t.Error(n, d, err)
		}
		if d == nil {
			continue
		}
		for _, log := range append(noLogs(n), 0, 1, n-1) {
			for kind := range kinds {
				for _, keep := range [][]int{nil, {}, {math.MinInt}, {math.MaxInt, math.MaxInt}, make([]int, 100)} {
					k := call{kind: kind, log: log, n: log, b: "ab", keep: keep}
					if got := k.to(d); got.err != api.OK && got.b != "" {
						t.Error(k, got)
					}
				}
			}
			d.Up()
		}
	}
}

// refusedCall is any call that is refused, whatever is armed.
func refusedCall(r *rand.Rand, d player, logs int, tooGreat string) call {
	k := someCall(r, logs)
	k.kind = r.IntN(kindRead + 1)
	switch {
	case r.IntN(2) == 0:
		k.log = noLogs(logs)[r.IntN(len(noLogs(logs)))]
	case !d.Down():
		k.kind, k.b = []int{kindAppend, kindSwap}[r.IntN(2)], tooGreat
	}
	return k
}

// P7.1, P7.2: a call that is refused leaves the disk as it was, down to what is armed: it goes on as one that never saw the call.
func TestRefusedCallsChangeNothing(t *testing.T) {
	r := rand.New(rand.NewPCG(7, 4))
	tooGreat := strings.Repeat("h", most+1)
	refused := map[api.Errno]int{}
	for range 300 {
		d, p := made(t, 3), plainly(3)
		for range 10 {
			for range r.IntN(5) {
				k := someCall(r, 3)
				if got, want := k.to(d), k.to(p); got != want {
					t.Fatalf("%v: %v, want %v", k, got, want)
				}
			}
			k := refusedCall(r, d, 3, tooGreat)
			got := k.to(d)
			if got.err == api.OK {
				t.Fatalf("kind %d, log %d, %.20q: %v", k.kind, k.log, k.b, got)
			}
			refused[got.err]++
			compare(t, d, p, 3)
		}
	}
	if refused[api.ErrDiskLog] < 300 || refused[api.ErrDiskDown] < 300 || refused[api.ErrDiskFull] < 300 {
		t.Error("too few refused:", refused)
	}
}
