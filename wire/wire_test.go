package wire

import (
	"bytes"
	"encoding/hex"
	"math"
	"math/rand/v2"
	"strings"
	"testing"

	"moiety/api"
)

var minusNought = math.Copysign(0, -1)

func uintValue(n uint64) api.Value   { return api.Value{Kind: api.KindUint, U: n} }
func intValue(n int64) api.Value     { return api.Value{Kind: api.KindInt, I: n} }
func floatValue(x float64) api.Value { return api.Value{Kind: api.KindFloat, F: x} }
func textValue(x string) api.Value   { return api.Value{Kind: api.KindText, S: x} }

// bitsValue is a float by its bits.
func bitsValue(bits uint64) api.Value { return floatValue(math.Float64frombits(bits)) }

// hexed is bytes of a text of base 16, in which blanks may stand.
func hexed(t *testing.T, text string) []byte {
	t.Helper()
	b, err := hex.DecodeString(strings.ReplaceAll(text, " ", ""))
	if err != nil {
		t.Fatal(err)
	}
	return b
}

// nones is what is no number, by several bits: quiet and signalling ones, of both signs; the usual one stands first.
func nones() []uint64 {
	return []uint64{
		0x7ff8000000000001, 0x7ff8000000000000, 0x7ff8000000000002, 0x7ff0000000000001, 0x7ff0000000000000 | 1<<50,
		0x7fffffffffffffff, 0xfff8000000000001, 0xfff8000000000000, 0xfff0000000000001, 0xffffffffffffffff,
	}
}

type packed struct {
	v    api.Value
	want string // its bytes, base 16
}

// table is values at the edges of their kinds, and their bytes by the chapter's words.
func table() []packed {
	const ff8, z8 = "ffffffffffffffff", "8080808080808080"
	return []packed{
		{uintValue(0), "0100"},
		{uintValue(1), "0101"},
		{uintValue(127), "017f"},
		{uintValue(128), "018001"},
		{uintValue(300), "01ac02"},
		{uintValue(1<<14 - 1), "01ff7f"},
		{uintValue(1 << 14), "01808001"},
		{uintValue(1<<56 - 1), "01" + ff8[2:] + "7f"},
		{uintValue(1 << 56), "01" + z8 + "01"},
		{uintValue(1<<63 - 1), "01" + ff8 + "7f"},
		{uintValue(1 << 63), "01" + z8 + "8001"},
		{uintValue(math.MaxUint64 - 1), "01fe" + ff8 + "01"},
		{uintValue(math.MaxUint64), "01ff" + ff8 + "01"},
		{intValue(0), "0200"},
		{intValue(-1), "0201"},
		{intValue(1), "0202"},
		{intValue(-2), "0203"},
		{intValue(63), "027e"},
		{intValue(-64), "027f"},
		{intValue(64), "028001"},
		{intValue(-65), "028101"},
		{intValue(math.MaxInt64), "02fe" + ff8 + "01"},
		{intValue(math.MinInt64 + 1), "02fd" + ff8 + "01"},
		{intValue(math.MinInt64), "02ff" + ff8 + "01"},
		{floatValue(0), "030000000000000000"},
		{floatValue(minusNought), "038000000000000000"},
		{floatValue(1), "033ff0000000000000"},
		{floatValue(-2), "03c000000000000000"},
		{floatValue(math.SmallestNonzeroFloat64), "030000000000000001"},
		{floatValue(-math.SmallestNonzeroFloat64), "038000000000000001"},
		{bitsValue(0x000fffffffffffff), "03000fffffffffffff"},
		{bitsValue(0x0123456789abcdef), "030123456789abcdef"},
		{floatValue(math.MaxFloat64), "037fefffffffffffff"},
		{floatValue(-math.MaxFloat64), "03ffefffffffffffff"},
		{floatValue(math.Inf(1)), "037ff0000000000000"},
		{floatValue(math.Inf(-1)), "03fff0000000000000"},
		{bitsValue(0x7ff8000000000001), "037ff8000000000001"},
		{textValue(""), "0400"},
		{textValue("hi"), "04026869"},
		{textValue("\x00"), "040100"},
		{textValue("\xff\xfe\x80"), "0403fffe80"}, // no text of any letters
		{textValue("\u00e9"), "0402c3a9"},
		{textValue(strings.Repeat("a", 127)), "047f" + strings.Repeat("61", 127)},
		{textValue(strings.Repeat("a", 128)), "048001" + strings.Repeat("61", 128)},
		{textValue(strings.Repeat("\x00", api.MaxText)), "04e807" + strings.Repeat("00", api.MaxText)},
		{textValue(strings.Repeat("\xff", api.MaxText)), "04e807" + strings.Repeat("ff", api.MaxText)},
	}
}

// tableValues is the table's values as one list.
func tableValues() []api.Value {
	var l []api.Value
	for _, c := range table() {
		l = append(l, c.v)
	}
	return l
}

// sameValues is whether two lists have the same values, floats by their bits.
func sameValues(a, b []api.Value) bool {
	if len(a) != len(b) {
		return false
	}
	for k, v := range a {
		w := b[k]
		if math.Float64bits(v.F) != math.Float64bits(w.F) {
			return false
		}
		v.F, w.F = 0, 0
		if v != w {
			return false
		}
	}
	return true
}

// mustPack is the bytes of values that may be.
func mustPack(t *testing.T, l []api.Value) []byte {
	t.Helper()
	b, err := Pack(l)
	if err != api.OK {
		t.Fatalf("Pack of %d values: %d", len(l), err)
	}
	return b
}

// someValues is values of all kinds and sizes, always the same ones.
func someValues(n int) []api.Value {
	r := rand.New(rand.NewPCG(1, 2))
	l := make([]api.Value, n)
	for k := range l {
		switch r.IntN(4) {
		case 0:
			l[k] = uintValue(r.Uint64() >> r.IntN(64))
		case 1:
			l[k] = intValue(int64(r.Uint64()) >> r.IntN(64))
		case 2:
			l[k] = bitsValue(r.Uint64())
			if math.IsNaN(l[k].F) {
				l[k] = bitsValue(nones()[0])
			}
		case 3:
			x := make([]byte, r.IntN(200))
			for m := range x {
				x[m] = byte(r.Uint32())
			}
			l[k] = textValue(string(x))
		}
	}
	return l
}

// P2.1: values at the edges of each kind are valid, also floats that are no number by any bits.
func TestValid(t *testing.T) {
	for _, c := range table() {
		if err := Valid(c.v); err != api.OK {
			t.Errorf("Valid(%v) = %d", c.v, err)
		}
	}
	for _, bits := range nones() {
		if err := Valid(bitsValue(bits)); err != api.OK {
			t.Errorf("Valid of a float of the bits %x = %d", bits, err)
		}
	}
}

// P2.1: no Kind but the four may be, whatever else the value has.
func TestValidKinds(t *testing.T) {
	for _, k := range []api.Kind{0, 5, -1, 6, 255, 256, 257, 260, 1 << 32, math.MaxInt, math.MinInt} {
		for _, v := range []api.Value{{}, {U: 1}, {I: 1}, {F: 1}, {S: "a"}, {S: strings.Repeat("a", api.MaxText+1)}} {
			v.Kind = k
			if err := Valid(v); err != api.ErrWireKind {
				t.Errorf("Valid of Kind %d = %d", k, err)
			}
		}
	}
}

// P2.1: another field than the kind's is a nought, a float the one without a minus; that is looked at ahead of a text's length.
func TestValidOtherFields(t *testing.T) {
	others := []struct {
		kind api.Kind // the one that may have it
		v    api.Value
	}{
		{api.KindUint, api.Value{U: 1}},
		{api.KindUint, api.Value{U: 1 << 63}},
		{api.KindInt, api.Value{I: 1}},
		{api.KindInt, api.Value{I: -1}},
		{api.KindInt, api.Value{I: math.MinInt64}},
		{api.KindFloat, api.Value{F: 1}},
		{api.KindFloat, api.Value{F: minusNought}},
		{api.KindFloat, api.Value{F: math.SmallestNonzeroFloat64}},
		{api.KindFloat, api.Value{F: -math.SmallestNonzeroFloat64}},
		{api.KindFloat, api.Value{F: math.NaN()}},
		{api.KindFloat, api.Value{F: math.Inf(1)}},
		{api.KindFloat, api.Value{F: math.Inf(-1)}},
		{api.KindText, api.Value{S: "a"}},
		{api.KindText, api.Value{S: "\x00"}},
		{api.KindText, api.Value{S: strings.Repeat("a", api.MaxText+1)}},
	}
	for _, own := range []api.Value{uintValue(0), uintValue(7), intValue(0), intValue(-7), floatValue(0), floatValue(7), textValue(""), textValue("b"), textValue(strings.Repeat("b", api.MaxText+1))} {
		for _, o := range others {
			if o.kind == own.Kind {
				continue
			}
			v := own
			switch o.kind {
			case api.KindUint:
				v.U = o.v.U
			case api.KindInt:
				v.I = o.v.I
			case api.KindFloat:
				v.F = o.v.F
			case api.KindText:
				v.S = o.v.S
			}
			if err := Valid(v); err != api.ErrWireKind {
				t.Errorf("Valid(%.60v) = %d, want ErrWireKind", v, err)
			}
			if b, err := Pack([]api.Value{v}); len(b) != 0 || err != api.ErrWireKind {
				t.Errorf("Pack(%.60v) = %x, %d, want ErrWireKind", v, b, err)
			}
		}
	}
}

// P2.1: a text has at most MaxText bytes: bytes, not letters.
func TestValidText(t *testing.T) {
	for _, c := range []struct {
		s   string
		err api.Errno
	}{
		{strings.Repeat("a", api.MaxText), api.OK},
		{strings.Repeat("a", api.MaxText+1), api.ErrWireText},
		{strings.Repeat("\u00e9", api.MaxText/2), api.OK},
		{strings.Repeat("\u00e9", api.MaxText/2+1), api.ErrWireText},
		{strings.Repeat("a", 1<<20), api.ErrWireText},
	} {
		if err := Valid(textValue(c.s)); err != c.err {
			t.Errorf("Valid of a text of %d bytes = %d, want %d", len(c.s), err, c.err)
		}
		if b, err := Pack([]api.Value{textValue(c.s)}); err != c.err || (err != api.OK) != (len(b) == 0) {
			t.Errorf("Pack of a text of %d bytes: %d bytes, %d, want %d", len(c.s), len(b), err, c.err)
		}
	}
}

// P2.1: the bytes of values of each kind.
func TestPack(t *testing.T) {
	for _, c := range table() {
		if b, err := Pack([]api.Value{c.v}); err != api.OK || !bytes.Equal(b, hexed(t, c.want)) {
			t.Errorf("Pack(%.60v) = %x, %d, want %s", c.v, b, err, c.want)
		}
	}
	for _, bits := range nones() {
		if b, err := Pack([]api.Value{bitsValue(bits)}); err != api.OK || !bytes.Equal(b, hexed(t, "037ff8000000000001")) {
			t.Errorf("Pack of a float of the bits %x = %x, %d", bits, b, err)
		}
	}
}

// P2.1: a list's bytes are those of its values, one behind the other, in their order.
func TestPackLists(t *testing.T) {
	for _, l := range [][]api.Value{nil, {}} {
		if b, err := Pack(l); len(b) != 0 || err != api.OK {
			t.Errorf("Pack of none = %x, %d", b, err)
		}
	}
	l := []api.Value{textValue("hi"), uintValue(300), floatValue(1), intValue(-1), uintValue(0), textValue("")}
	if b, err := Pack(l); err != api.OK || !bytes.Equal(b, hexed(t, "04026869 01ac02 033ff0000000000000 0201 0100 0400")) {
		t.Errorf("Pack = %x, %d", b, err)
	}
	var all []byte
	for _, c := range table() {
		all = append(all, hexed(t, c.want)...)
	}
	if b := mustPack(t, tableValues()); !bytes.Equal(b, all) {
		t.Errorf("Pack = %x, want %x", b, all)
	}
}

// P2.1: MaxValues values may be; one more may not, and that is told ahead of a value that isn't valid.
func TestPackMany(t *testing.T) {
	l := make([]api.Value, api.MaxValues+1)
	for k := range l {
		l[k] = uintValue(1)
	}
	if b := mustPack(t, l[:api.MaxValues]); !bytes.Equal(b, bytes.Repeat([]byte{1, 1}, api.MaxValues)) {
		t.Errorf("%d bytes", len(b))
	}
	for range 2 {
		if b, err := Pack(l); len(b) != 0 || err != api.ErrWireMany {
			t.Errorf("Pack of %d values: %d bytes, %d", len(l), len(b), err)
		}
		l[0] = api.Value{}
	}
	if b, err := Pack(l[:api.MaxValues]); len(b) != 0 || err != api.ErrWireKind {
		t.Errorf("Pack of MaxValues values, one of no Kind: %d bytes, %d", len(b), err)
	}
}

// P2.1: of several values that aren't valid the first one's error is told.
func TestPackFirstWrong(t *testing.T) {
	long, none := textValue(strings.Repeat("a", api.MaxText+1)), api.Value{Kind: 9}
	for _, c := range []struct {
		l   []api.Value
		err api.Errno
	}{
		{[]api.Value{none}, api.ErrWireKind},
		{[]api.Value{uintValue(1), long, none}, api.ErrWireText},
		{[]api.Value{uintValue(1), none, long}, api.ErrWireKind},
		{[]api.Value{uintValue(1), uintValue(2), long}, api.ErrWireText},
		{[]api.Value{textValue("a"), {Kind: api.KindUint, U: 1, S: "a"}}, api.ErrWireKind},
	} {
		if b, err := Pack(c.l); len(b) != 0 || err != c.err {
			t.Errorf("Pack = %x, %d, want %d", b, err, c.err)
		}
	}
}

// The rules that hold everywhere: what is handed in is neither changed nor kept, and what is handed out is new memory.
func TestPackLetsItsListBe(t *testing.T) {
	l := append(tableValues(), uintValue(9), bitsValue(nones()[1]), uintValue(8))
	was := append([]api.Value(nil), l...)
	b := mustPack(t, l[:len(l)-1])
	c := mustPack(t, l[:len(l)-1])
	for k := range b[:cap(b)] {
		b[:cap(b)][k] ^= 0xff
	}
	if !sameValues(l, was) {
		t.Error("the list was changed")
	}
	if !bytes.Equal(c, mustPack(t, l[:len(l)-1])) {
		t.Error("two answers share memory")
	}
}
