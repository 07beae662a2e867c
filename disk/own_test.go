package disk

import (
	"bytes"
	"slices"
	"testing"

	"moiety/api"
)

// spoil changes bytes, and what stands in the spare room behind them.
func spoil(b []byte) {
	b = b[:cap(b)]
	for k := range b {
		b[k] = '#'
	}
}

// roomy is bytes with spare room behind them, and all of it, by which it can be seen if someone wrote there.
func roomy(s string) (b, all []byte) {
	all = append([]byte(s), bytes.Repeat([]byte{'.'}, 30)...)
	return all[:len(s)], all
}

// P7.1: bytes that were handed in are neither changed nor kept, their spare room included.
func TestBytesHandedIn(t *testing.T) {
	d := made(t, 2)
	for _, s := range []string{"", "a", "bcd"} {
		for _, call := range []func(log int, b []byte) api.Errno{d.Swap, d.Append} {
			b, all := roomy(s)
			was := bytes.Clone(all)
			before, _ := d.Read(0)
			if err := call(0, b); err != api.OK {
				t.Fatal(err)
			}
			put(t, d, 0, "++", api.OK)
			if !bytes.Equal(all, was) {
				t.Errorf("%q: handed in %q, is %q", s, was, all)
			}
			want, _ := d.Read(0)
			if !bytes.HasSuffix(want, []byte(s+"++")) {
				t.Errorf("%q behind %q: %q", s, before, want)
			}
			spoil(all)
			has(t, d, 0, string(want), d.Sure(0))
		}
	}
}

// P7.1: bytes that were read are the reader's: what he changes, or puts behind them, the disk does not see, nor any other reader; nor does he see what comes later.
func TestBytesRead(t *testing.T) {
	d := made(t, 1)
	for _, s := range []string{"", "a", "bcd"} {
		for _, call := range []func(log int, b []byte) api.Errno{d.Swap, d.Append} {
			if err := call(0, []byte(s)); err != api.OK {
				t.Fatal(err)
			}
			first, _ := d.Read(0)
			second, _ := d.Read(0)
			want := string(second)
			spoil(first)
			_ = append(first, "behind"...)
			if string(second) != want {
				t.Errorf("read %q, is %q", want, second)
			}
			has(t, d, 0, want, d.Sure(0))
			put(t, d, 0, "later", api.OK)
			if string(second) != want {
				t.Errorf("read %q, is %q", want, second)
			}
			swap(t, d, 0, "elsewhere than that", api.OK)
			if string(second) != want {
				t.Errorf("read %q, is %q", want, second)
			}
			swap(t, d, 0, want, api.OK)
		}
	}
}

// P7.1: what was read of a log stays as it was read when the power goes, and others come where the lost bytes stood.
func TestBytesReadAheadOfALoss(t *testing.T) {
	d := made(t, 1)
	put(t, d, 0, "abcdef", api.OK)
	b, _ := d.Read(0)
	d.Crash([]int{2})
	d.Up()
	put(t, d, 0, "xyz", api.OK)
	has(t, d, 0, "abxyz", 2)
	if string(b) != "abcdef" {
		t.Errorf("%q", b)
	}
}

// P7.1: a log can be given its own bytes, and another one's; then each goes on alone.
func TestBytesOfALog(t *testing.T) {
	d := made(t, 2)
	put(t, d, 0, "ab", api.OK)
	b, _ := d.Read(0)
	if d.Append(0, b) != api.OK || d.Swap(1, b) != api.OK || d.Append(1, b) != api.OK {
		t.Fatal("refused")
	}
	spoil(b)
	put(t, d, 1, "+", api.OK)
	has(t, d, 0, "abab", 0)
	has(t, d, 1, "abab+", 2)
}

// P7.2: keep is neither changed nor kept, its spare room included: what is armed is what it was then.
func TestKeepHandedIn(t *testing.T) {
	for _, keep := range [][]int{{2, 0, 1, 5}, {1}, {-4, 3, 3, 1, 7, 9}, {}} {
		a, b, c := half(t), half(t), half(t)
		all := append(slices.Clone(keep), 3, 3, 3, 3)
		was := slices.Clone(all)
		in := all[:len(keep)]
		a.Arm(2, in)
		b.Crash(in)
		if !slices.Equal(all, was) {
			t.Errorf("handed in %v, is %v", was, all)
		}
		for k := range all {
			all[k] = 3 - all[k]
		}
		sync(t, a, 3, api.OK)
		sync(t, a, 3, api.ErrDiskDown)
		c.Crash(keep)
		alike(t, a, c)
		c.Crash(nil)
		b.Up()
		b.Crash(nil)
		alike(t, b, c)
	}
}

// P7.2: what an armed loss leaves behind goes by its own keep alone, also where an earlier one was longer.
func TestKeepIsForgotten(t *testing.T) {
	d := half(t)
	d.Arm(1, []int{3, 3, 3, 3})
	d.Arm(1, []int{1})
	sync(t, d, 0, api.ErrDiskDown)
	d.Up()
	haveJust(t, d, [4]string{"abcd", "abc", "abc", "abcdef"})
	for log := range 3 {
		put(t, d, log, "xyz", api.OK)
	}
	d.Arm(1, nil)
	sync(t, d, 0, api.ErrDiskDown)
	d.Up()
	haveJust(t, d, [4]string{"abcd", "abc", "abc", "abcdef"})
}
