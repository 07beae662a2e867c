package wal

import (
	"bytes"
	"testing"

	"moiety/api"
)

// spoil changes bytes, and what stands in the spare room behind them.
func spoil(b []byte) {
	b = b[:cap(b)]
	for k := range b {
		b[k] = '#'
	}
}

// roomy is bytes with spare room behind them, and all of it, by which it can be seen if someone wrote there.
func roomy(s string) (b, all []byte) {
	all = append([]byte(s), bytes.Repeat([]byte{'.'}, 40)...)
	return all[:len(s)], all
}

// P8.2: a load that was handed in is neither changed nor kept, its spare room included.
func TestLoadHandedIn(t *testing.T) {
	d := made(t, 1)
	w := opened(t, d, 0)
	var want []string
	for _, s := range []string{"", "a", "bcd", framed("e"), long(100)} {
		b, all := roomy(s)
		was := bytes.Clone(all)
		if err := w.Append(b); err != api.OK {
			t.Fatal(err)
		}
		if !bytes.Equal(all, was) {
			t.Errorf("handed in %q, is %q", was, all)
		}
		spoil(all)
		want = append(want, s)
		has(t, d, 0, joined(want...), 0)
	}
	opened(t, d, 0, want...)
}

// P8.2: a list of loads that was handed in is neither changed nor kept, nor are its loads, its spare room and theirs included.
func TestListHandedIn(t *testing.T) {
	d := made(t, 1)
	w := opened(t, d, 0)
	all := make([][]byte, 6)
	var rooms, was [][]byte
	for k, s := range []string{"a", "", "bcd", framed("e"), "behind the list", "and this"} {
		b, room := roomy(s)
		all[k] = b
		rooms, was = append(rooms, room), append(was, bytes.Clone(room))
	}
	want := []string{"a", "", "bcd", framed("e")}
	if err := w.Fresh(all[:4]); err != api.OK {
		t.Fatal(err)
	}
	put(t, w, "more", api.OK)
	for k := range rooms {
		if !bytes.Equal(rooms[k], was[k]) || &all[k][:1][0] != &rooms[k][0] {
			t.Errorf("handed in %q, is %q", was[k], rooms[k])
		}
		spoil(rooms[k])
		all[k] = nil
	}
	has(t, d, 0, joined(append(want, "more")...), len(joined(want...)))
	opened(t, d, 0, append(want, "more")...)
}

// P8.2: what is refused leaves what was handed in as it was.
func TestRefusedHandedIn(t *testing.T) {
	_, w := begun(t, 0)
	tooLong, all := roomy(long(api.MaxFrame + 1))
	a, room := roomy("a")
	was, wasRoom := bytes.Clone(all), bytes.Clone(room)
	if w.Append(tooLong) != api.ErrFrameLong || w.Fresh([][]byte{a, tooLong}) != api.ErrFrameLong {
		t.Error("not refused")
	}
	if !bytes.Equal(all, was) || !bytes.Equal(room, wasRoom) {
		t.Error("changed")
	}
}

// P8.1: loads that were told are the asker's: what he changes, or puts behind them, neither the disk sees, nor the wal, nor another asker, nor another load of them.
func TestLoadsTold(t *testing.T) {
	for _, tail := range []string{"", "tail"} {
		l := []string{"a", "", "bcd", framed("e"), "f"}
		d := laid(t, joined(l...)+tail, 12)
		for k := range l {
			w, first, err := Open(d, 0)
			if err != api.OK {
				t.Fatal(err)
			}
			_, second, _ := Open(d, 0)
			want := texts(first)
			_ = append(first[k], "behind it, and farther than the next one"...)
			spoil(first[k])
			want[k] = string(first[k])
			told(t, first, want)
			told(t, second, l)
			clear(first)
			counted(t, w, len(l), len(l))
			opened(t, d, 0, l...)
		}
	}
}

// P8.1: loads that were told stay as they were, whatever comes later.
func TestLoadsToldEarlier(t *testing.T) {
	d := laid(t, joined("a", "bb")+"tail", 0)
	w, loads, err := Open(d, 0)
	if err != api.OK {
		t.Fatal(err)
	}
	put(t, w, "c", api.OK)
	told(t, loads, []string{"a", "bb"})
	fresh(t, w, api.OK, "x", "yy", "z")
	put(t, w, "w", api.OK)
	d.Crash([]int{3})
	d.Up()
	opened(t, d, 0, "x", "yy", "z")
	told(t, loads, []string{"a", "bb"})
}

// P8.1, P8.2: loads that were told can be handed in again, to the same wal and to another one.
func TestLoadsToldHandedIn(t *testing.T) {
	d := laid(t, joined("a", "bb"), 0)
	w, loads, err := Open(d, 0)
	if err != api.OK {
		t.Fatal(err)
	}
	d.Swap(1, nil)
	v := opened(t, d, 1)
	if w.Append(loads[0]) != api.OK || v.Fresh(loads) != api.OK || w.Fresh(append(loads, loads...)) != api.OK {
		t.Fatal("refused")
	}
	for _, load := range loads {
		spoil(load)
	}
	opened(t, d, 0, "a", "bb", "a", "bb")
	opened(t, d, 1, "a", "bb")
}
