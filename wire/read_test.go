package wire

import (
	"bytes"
	"math"
	"math/big"
	"math/rand/v2"
	"strconv"
	"strings"
	"testing"

	"moiety/api"
)

// checkUnpack holds what Unpack answers against values, or against an error and its place.
func checkUnpack(t *testing.T, b []byte, want []api.Value, place int, err api.Errno) {
	t.Helper()
	l, gotPlace, gotErr := Unpack(b)
	if !sameValues(l, want) || gotPlace != place || gotErr != err {
		t.Errorf("Unpack(%.100x) = %.100v, %d, %d, want %.100v, %d, %d", b, l, gotPlace, gotErr, want, place, err)
	}
}

// P2.2: the values of bytes, of each kind alone, all of them in one list, and none.
func TestUnpack(t *testing.T) {
	var all []byte
	for _, c := range table() {
		b := hexed(t, c.want)
		checkUnpack(t, b, []api.Value{c.v}, 0, api.OK)
		all = append(all, b...)
	}
	checkUnpack(t, all, tableValues(), 0, api.OK)
	checkUnpack(t, nil, nil, 0, api.OK)
	checkUnpack(t, []byte{}, nil, 0, api.OK)
}

// P2.2: each error where it stands alone, and where another one would come later, at the place of the value in which it is met.
func TestUnpackWrong(t *testing.T) {
	const ff9, z9 = "ffffffffffffffffff", "808080808080808080"
	for _, c := range []struct {
		b     string
		place int
		err   api.Errno
	}{
		{"09", 0, api.ErrWireKind},
		{"00", 0, api.ErrWireKind},
		{"05", 0, api.ErrWireKind},
		{"ff", 0, api.ErrWireKind},
		{"81 01", 0, api.ErrWireKind}, // a Kind is a byte, no number of several
		{"0105 00", 2, api.ErrWireKind},
		{"0105 09 018000", 2, api.ErrWireKind},

		{"01", 0, api.ErrWireShort},
		{"0180", 0, api.ErrWireShort},
		{"01" + z9, 0, api.ErrWireShort},
		{"01" + ff9, 0, api.ErrWireShort},
		{"02", 0, api.ErrWireShort},
		{"02ff", 0, api.ErrWireShort},
		{"03", 0, api.ErrWireShort},
		{"0300000000000000", 0, api.ErrWireShort},
		{"03ffffffffffffff", 0, api.ErrWireShort}, // whatever the eighth byte were, it would be no number
		{"04", 0, api.ErrWireShort},
		{"0480", 0, api.ErrWireShort},
		{"0401", 0, api.ErrWireShort},
		{"04026a", 0, api.ErrWireShort},
		{"04e807", 0, api.ErrWireShort},
		{"0105 040268", 2, api.ErrWireShort},
		{"0105 03ffff", 2, api.ErrWireShort},

		{"018000", 0, api.ErrWireLong},
		{"01ff00", 0, api.ErrWireLong},
		{"01808000", 0, api.ErrWireLong},
		{"028000", 0, api.ErrWireLong},
		{"02818000", 0, api.ErrWireLong},
		{"048000", 0, api.ErrWireLong},
		{"04828000", 0, api.ErrWireLong},
		{"01" + z9 + "00", 0, api.ErrWireLong},
		{"01" + z9 + "02", 0, api.ErrWireLong}, // 2^64
		{"01" + ff9 + "02", 0, api.ErrWireLong},
		{"01" + ff9 + "03", 0, api.ErrWireLong},
		{"01" + ff9 + "7f", 0, api.ErrWireLong},
		{"01" + ff9 + "40", 0, api.ErrWireLong},
		{"01" + ff9 + "ff", 0, api.ErrWireLong}, // the bytes end, but they are too many bits already
		{"01" + ff9 + "82", 0, api.ErrWireLong},
		{"01" + z9 + "80", 0, api.ErrWireLong}, // the eleventh byte has no room, whatever it is
		{"01" + z9 + "81", 0, api.ErrWireLong},
		{"01" + z9 + "8001", 0, api.ErrWireLong},
		{"01" + z9 + "8000", 0, api.ErrWireLong},
		{"01" + z9 + "8100", 0, api.ErrWireLong},
		{"01" + z9 + z9 + z9, 0, api.ErrWireLong},
		{"02" + ff9 + "02", 0, api.ErrWireLong},
		{"04" + ff9 + "02", 0, api.ErrWireLong},
		{"04" + z9 + "8001", 0, api.ErrWireLong},
		{"0400 0105 018000 09", 4, api.ErrWireLong},

		{"04e907", 0, api.ErrWireText}, // ahead of its being short
		{"04e907" + strings.Repeat("61", api.MaxText+1), 0, api.ErrWireText},
		{"048008", 0, api.ErrWireText},
		{"04808001", 0, api.ErrWireText},
		{"0480808080808001", 0, api.ErrWireText},
		{"04" + z9 + "01", 0, api.ErrWireText}, // 2^63, which is no int
		{"04" + ff9 + "01", 0, api.ErrWireText},
		{"0101 0101 04" + ff9 + "01", 4, api.ErrWireText},

		{"037ff8000000000000", 0, api.ErrWireFloat},
		{"037ff0000000000001 09", 0, api.ErrWireFloat},
		{"0400 03fff8000000000001", 2, api.ErrWireFloat},
	} {
		checkUnpack(t, hexed(t, c.b), nil, c.place, c.err)
	}
}

// P2.2: of all first bytes four are a Kind, whatever stands behind them.
func TestUnpackKinds(t *testing.T) {
	for k := range 256 {
		if k >= 1 && k <= 4 {
			continue
		}
		for _, rest := range []string{"", "00", "8000", "0101"} {
			b := append([]byte{byte(k)}, hexed(t, rest)...)
			checkUnpack(t, b, nil, 0, api.ErrWireKind)
			checkUnpack(t, append([]byte{1, 5, 4, 0}, b...), nil, 4, api.ErrWireKind)
		}
	}
}

// P2.2: of what is no number the usual bits alone may be.
func TestUnpackNones(t *testing.T) {
	for k, bits := range nones() {
		b := []byte{3}
		for shift := 56; shift >= 0; shift -= 8 {
			b = append(b, byte(bits>>shift))
		}
		if k == 0 {
			checkUnpack(t, b, []api.Value{bitsValue(bits)}, 0, api.OK)
		} else {
			checkUnpack(t, b, nil, 0, api.ErrWireFloat)
		}
	}
}

// P2.2: behind MaxValues values nothing may stand, and that is told ahead of what it is.
func TestUnpackMany(t *testing.T) {
	b := bytes.Repeat([]byte{1, 5}, api.MaxValues)
	l, place, err := Unpack(b)
	if len(l) != api.MaxValues || place != 0 || err != api.OK {
		t.Errorf("%d values, %d, %d", len(l), place, err)
	}
	for _, rest := range []string{"01", "0105", "09", "018000", "037ff8000000000000", "04e907"} {
		checkUnpack(t, append(b, hexed(t, rest)...), nil, len(b), api.ErrWireMany)
	}
	checkUnpack(t, append(b[:len(b)-2:len(b)-2], 9, 9), nil, len(b)-2, api.ErrWireKind) // in the last one that may be
	checkUnpack(t, append(b[:len(b)-2:len(b)-2], 1), nil, len(b)-2, api.ErrWireShort)
}

// P2.3: what was packed is unpacked, and what is unpacked has just these bytes.
func TestThereAndBack(t *testing.T) {
	for _, l := range [][]api.Value{nil, tableValues(), someValues(api.MaxValues)} {
		b := mustPack(t, l)
		checkUnpack(t, b, l, 0, api.OK)
		for _, v := range l {
			checkUnpack(t, mustPack(t, []api.Value{v}), []api.Value{v}, 0, api.OK)
		}
	}
	for _, bits := range nones() {
		checkUnpack(t, mustPack(t, []api.Value{bitsValue(bits)}), []api.Value{bitsValue(nones()[0])}, 0, api.OK)
	}
}

// P2.3: two lists one behind the other are one list's bytes, also where together they are too many.
func TestTwoLists(t *testing.T) {
	all := someValues(api.MaxValues)
	for _, k := range []int{0, 1, 2, 17, 500, 999, 1000} {
		a, b := mustPack(t, all[:k]), mustPack(t, all[k:])
		checkUnpack(t, append(a, b...), all, 0, api.OK)
	}
	b := mustPack(t, all)
	checkUnpack(t, append(b, mustPack(t, all[:1])...), nil, len(b), api.ErrWireMany)
}

// P2.3: of bytes that are cut the values that are whole come, or ErrWireShort is told, at the value that was cut.
func TestCutEverywhere(t *testing.T) {
	for _, l := range [][]api.Value{tableValues(), someValues(60)} {
		b := mustPack(t, l)
		begins, at := map[int]int{}, 0 // where values begin, and how many stand ahead
		for k, v := range l {
			begins[at] = k
			at += len(mustPack(t, []api.Value{v}))
		}
		begins[at] = len(l)
		place := 0
		for cut := range len(b) + 1 {
			if k, ok := begins[cut]; ok {
				place = cut
				checkUnpack(t, b[:cut], l[:k], 0, api.OK)
				continue
			}
			checkUnpack(t, b[:cut], nil, place, api.ErrWireShort)
		}
	}
}

// number is P2.2's number in b, by numbers of any size: it is too long as soon as, whatever came behind, it would have more than 64 bits.
func number(b []byte) (n *big.Int, length int, err api.Errno) {
	n = new(big.Int)
	for k, c := range b {
		n.Or(n, new(big.Int).Lsh(big.NewInt(int64(c%128)), uint(7*k)))
		least := n // of all that it may yet become
		if c >= 128 {
			least = new(big.Int).Or(n, new(big.Int).Lsh(big.NewInt(1), uint(7*k+7)))
		}
		if least.BitLen() > 64 || k > 0 && c == 0 {
			return nil, 0, api.ErrWireLong
		}
		if c < 128 {
			return n, k + 1, api.OK
		}
	}
	return nil, 0, api.ErrWireShort
}

// P2.2 and P2.3: against numbers of any size, for bytes that are at the edges of what a number's may be.
func TestAnyNumbers(t *testing.T) {
	r := rand.New(rand.NewPCG(3, 4))
	edges := []byte{0, 1, 2, 3, 0x3f, 0x40, 0x7f, 0x80, 0x81, 0x82, 0xc0, 0xfe, 0xff}
	for range 50000 {
		b := make([]byte, 1+r.IntN(13))
		b[0] = 1
		for k := range b[1:] {
			b[k+1] = edges[r.IntN(len(edges))]
			if r.IntN(4) > 0 {
				b[k+1] |= 0x80
			}
		}
		n, length, err := number(b[1:])
		if err != api.OK {
			checkUnpack(t, b, nil, 0, err)
			continue
		}
		b = b[:1+length]
		checkUnpack(t, b, []api.Value{uintValue(n.Uint64())}, 0, api.OK)
		b[0] = 2
		half := new(big.Int).Rsh(n, 1)
		if n.Bit(0) == 1 {
			half.Not(half)
		}
		checkUnpack(t, b, []api.Value{intValue(half.Int64())}, 0, api.OK)
	}
}

// P1, P2.2 and P2.3: of any bytes values come that have just these bytes, or an error and a place ahead of which whole values stand; what isn't short is wrong whatever comes behind.
func TestAnyBytes(t *testing.T) {
	r := rand.New(rand.NewPCG(5, 6))
	edges := []byte{0, 1, 1, 2, 2, 3, 4, 4, 5, 0x7f, 0x80, 0xe8, 0xe9, 7, 0xff, 0xf0, 0xf8}
	for range 100000 {
		b := make([]byte, r.IntN(40))
		for k := range b {
			b[k] = edges[r.IntN(len(edges))]
		}
		l, place, err := Unpack(b)
		if err == api.OK {
			if place != 0 || !bytes.Equal(mustPack(t, l), b) {
				t.Fatalf("Unpack(%x) = %v, %d", b, l, place)
			}
			continue
		}
		ahead, _, aheadErr := Unpack(b[:max(0, min(place, len(b)))])
		if l != nil || place < 0 || place >= len(b) || aheadErr != api.OK || !bytes.Equal(mustPack(t, ahead), b[:place]) {
			t.Fatalf("Unpack(%x) = %v, %d, %d, with %d ahead", b, l, place, err, aheadErr)
		}
		if err != api.ErrWireShort {
			checkUnpack(t, append(b, edges...), nil, place, err)
		}
	}
}

// The rules that hold everywhere: bytes that are handed in are neither changed nor kept, and texts are new memory.
func TestUnpackLetsItsBytesBe(t *testing.T) {
	b := hexed(t, "04026869 04016a 0105 ffff")
	was := bytes.Clone(b)
	l, _, err := Unpack(b[:9])
	if err != api.OK || !bytes.Equal(b, was) {
		t.Errorf("changed: %x, %d", b, err)
	}
	Unpack(b)
	if !bytes.Equal(b, was) {
		t.Errorf("changed: %x", b)
	}
	clear(b)
	if !sameValues(l, []api.Value{textValue("hi"), textValue("j"), uintValue(5)}) {
		t.Errorf("%v hangs on what was handed in", l)
	}
}

// P1: calls answer one behind the other, also behind one that gave up, and a call knows nothing of the one ahead.
func TestCallsKnowNothing(t *testing.T) {
	bad, good := hexed(t, "0105 018000"), hexed(t, "0105 0201")
	for range 3 {
		checkUnpack(t, bad, nil, 2, api.ErrWireLong)
		checkUnpack(t, good, []api.Value{uintValue(5), intValue(-1)}, 0, api.OK)
	}
}

// P1: no length of a text, and no number of bytes behind it, leads out of the bytes.
func TestTextLengths(t *testing.T) {
	for n := range uint64(api.MaxText + 2) {
		b := appendNumber([]byte{4}, n)
		for _, have := range []uint64{0, n / 2, n - min(n, 1), n, n + 1} {
			got := append(bytes.Clone(b), bytes.Repeat([]byte{'x'}, int(have))...)
			want, place, err := []api.Value(nil), 0, api.OK
			switch {
			case n > api.MaxText:
				err = api.ErrWireText
			case have < n:
				err = api.ErrWireShort
			case have > n: // an x is no Kind
				place, err = len(got)-1, api.ErrWireKind
			default:
				want = []api.Value{textValue(strings.Repeat("x", int(n)))}
			}
			checkUnpack(t, got, want, place, err)
		}
	}
	for e := 10; e < 64; e++ {
		for _, n := range []uint64{1 << e, 1<<e + 1, math.MaxUint64 >> (63 - e)} {
			t.Run(strconv.FormatUint(n, 10), func(t *testing.T) {
				checkUnpack(t, append(appendNumber([]byte{4}, n), 'x'), nil, 0, api.ErrWireText)
			})
		}
	}
}
