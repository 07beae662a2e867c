package pledge

import (
	"testing"

	"moiety/api"
)

// wrongCalls is calls that may be refused: of each kind, right and wrong, those at the ends among them.
func wrongCalls() []call {
	l := []call{{kind: kindAbort}, {kind: kindAck, pays: pays}, {kind: kindAck, pays: gets}}
	for _, t := range append(noStamps(), 1, 4, 5, 6, end-1, end) {
		l = append(l, call{kind: kindCommit, t: t})
		for _, side := range sides() {
			l = append(l, call{kind: kindVote, pays: side, yes: yes, t: t}, call{kind: kindVote, pays: side, yes: no, t: t})
		}
	}
	return l
}

// behind is a pledge behind some calls.
func behind(t *testing.T, play []call) *Pledge {
	t.Helper()
	p := made(t, usual())
	for _, k := range play {
		k.ask(p)
	}
	return p
}

// refuses asks a pledge behind some calls for all that it refuses then, and holds what it tells against what it told; how many it refused.
func refuses(t *testing.T, play []call, p *Pledge) int {
	t.Helper()
	was, n := told(p), 0
	for _, k := range wrongCalls() {
		if k.ask(behind(t, play)) == api.OK {
			continue
		}
		k.ask(p)
		n++
		if got := told(p); !got.like(was) {
			t.Fatalf("behind %v, %v was refused, and it tells %v, told %v", play, k, got, was)
		}
	}
	return n
}

// P1, P16.2 to P16.4: what is refused changes nothing: behind it the pledge tells, and answers to whatever comes next, as one that was never asked.
func TestRefusedChangesNothing(t *testing.T) {
	for size := range 4 {
		plays(fewCalls(), size, func(play []call) {
			asked := func() *Pledge {
				p := behind(t, play)
				if n := refuses(t, play, p); n < 20 {
					t.Fatal("too few refused:", n)
				}
				return p
			}
			goesOnAlike(t, play, asked)
		})
	}
}

// goesOnAlike holds what a pledge, behind a play, answers and tells at whatever may come next, alone and behind more, against one that nothing else was asked of.
func goesOnAlike(t *testing.T, play []call, asked func() *Pledge) {
	t.Helper()
	longAsked, longNever := asked(), behind(t, play)
	for _, k := range fewCalls() {
		for _, d := range [][2]*Pledge{{asked(), behind(t, play)}, {longAsked, longNever}} {
			got, want := k.ask(d[0]), k.ask(d[1])
			if got != want || !told(d[0]).like(told(d[1])) {
				t.Fatalf("behind %v, and what else was asked: %v = %d, want %d", play, k, got, want)
			}
		}
	}
}

// P16.1 to P16.4: what is only asked for changes nothing either.
func TestAskingChangesNothing(t *testing.T) {
	for size := range 4 {
		plays(fewCalls(), size, func(play []call) {
			goesOnAlike(t, play, func() *Pledge {
				p := made(t, usual())
				for _, k := range play {
					told(p)
					k.ask(p)
					told(p)
				}
				return p
			})
		})
	}
}

// P1: every call answers, at all arguments, as the chapter's words have it, and beside a false there is no stamp.
func TestAllAnswer(t *testing.T) {
	for _, x := range []api.Transfer{usual(), {ID: 1, From: 0, To: topmost, N: 1}, {ID: last, From: topmost, To: 0, N: most}} {
		for _, first := range wrongCalls() {
			for _, second := range wrongCalls() {
				p, w := made(t, x), newPlain(x)
				for _, k := range []call{first, second, {kind: kindVote, pays: pays, yes: yes, t: 5}, first, {kind: kindVote, pays: gets, yes: yes, t: 5}, second, first} {
					got, want := k.ask(p), k.ask(w)
					if got != want || !told(p).like(told(w)) {
						t.Fatalf("%v, %v: %v = %d, want %d", first, second, k, got, want)
					}
					if since, isReady := p.Ready(); !isReady && since != 0 {
						t.Fatalf("%v, %v: not ready, and %d", first, second, since)
					}
				}
			}
		}
	}
}
