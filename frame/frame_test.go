package frame

import (
	"bytes"
	"encoding/binary"
	"hash/crc32"
	"math"
	"math/rand/v2"
	"testing"

	"moiety/api"
)

// oracle is P3.1's frame of a load of at most MaxFrame bytes, by the library's own check sum.
func oracle(load []byte) []byte {
	length := binary.BigEndian.AppendUint32(nil, uint32(len(load)))
	sum := crc32.ChecksumIEEE(append(bytes.Clone(length), load...))
	return append(binary.BigEndian.AppendUint32(length, sum), load...)
}

// someBytes is n bytes that follow from a seed.
func someBytes(n int, seed uint64) []byte {
	r := rand.New(rand.NewPCG(seed, uint64(n)))
	b := make([]byte, n)
	for k := range b {
		b[k] = byte(r.UintN(256))
	}
	return b
}

// someLoads is loads of all kinds: none, one byte, many, bytes that look like a frame's.
func someLoads() [][]byte {
	return [][]byte{
		[]byte("a"),
		{},
		[]byte("bb"),
		{0},
		{0, 0, 0, 0, 0, 0, 0, 0},
		oracle([]byte("a")),
		someBytes(17, 1),
		oracle(nil),
		bytes.Repeat([]byte{0xff}, 30),
		someBytes(100, 2),
		[]byte("a"),
	}
}

// joined is the frames of loads, one behind the other, and where each ends.
func joined(loads [][]byte) (b []byte, ends []int) {
	for _, l := range loads {
		b = append(b, oracle(l)...)
		ends = append(ends, len(b))
	}
	return b, ends
}

// mustSeal is a load's frame, which must be one.
func mustSeal(t *testing.T, load []byte) []byte {
	t.Helper()
	b, err := Seal(load)
	if err != api.OK {
		t.Fatalf("Seal of %d bytes: %d", len(load), err)
	}
	return b
}

// checkOpen holds what Open answers against a load and a frame's bytes, or against an error.
func checkOpen(t *testing.T, b, load []byte, size int, err api.Errno) {
	t.Helper()
	gotLoad, gotSize, gotErr := Open(b)
	if !bytes.Equal(gotLoad, load) || gotSize != size || gotErr != err {
		t.Errorf("Open(%.40x) of %d bytes = %.40x, %d, %d, want %.40x, %d, %d", b, len(b), gotLoad, gotSize, gotErr, load, size, err)
	}
}

// checkScan holds what Scan answers against loads and their frames' bytes.
func checkScan(t *testing.T, b []byte, loads [][]byte, size int) {
	t.Helper()
	gotLoads, gotSize := Scan(b)
	if !sameLoads(gotLoads, loads) || gotSize != size {
		t.Errorf("Scan(%.40x) of %d bytes = %.40x, %d, want %.40x, %d", b, len(b), gotLoads, gotSize, loads, size)
	}
}

func sameLoads(a, b [][]byte) bool {
	if len(a) != len(b) {
		return false
	}
	for k := range a {
		if !bytes.Equal(a[k], b[k]) {
			return false
		}
	}
	return true
}

// P3.1: sums that are known, and any others against the library's.
func TestSum(t *testing.T) {
	for _, c := range []struct {
		b    string
		want uint32
	}{
		{"", 0},
		{"123456789", 0xcbf43926},
		{"a", 0xe8b7be43},
		{"abc", 0x352441c2},
		{"\x00", 0xd202ef8d},
		{"\x00\x00\x00\x00", 0x2144df1c},
		{"\xff", 0xff000000},
		{"\xff\xff\xff\xff", 0xffffffff},
	} {
		if got := Sum([]byte(c.b)); got != c.want {
			t.Errorf("Sum(%q) = %x, want %x", c.b, got, c.want)
		}
	}
	if got := Sum(nil); got != 0 {
		t.Errorf("Sum(nil) = %x", got)
	}
	for n := range 300 {
		for _, b := range [][]byte{someBytes(n, 3), make([]byte, n), bytes.Repeat([]byte{0x80}, n)} {
			if got, want := Sum(b), crc32.ChecksumIEEE(b); got != want {
				t.Errorf("Sum(%x) = %x, want %x", b, got, want)
			}
		}
	}
	for c := range 256 {
		if got, want := Sum([]byte{byte(c)}), crc32.ChecksumIEEE([]byte{byte(c)}); got != want {
			t.Errorf("Sum of the byte %x = %x, want %x", c, got, want)
		}
	}
	b := someBytes(3*api.MaxFrame, 4) // of a sum's bytes there may be more than of a load's
	if got, want := Sum(b), crc32.ChecksumIEEE(b); got != want {
		t.Errorf("Sum of %d bytes = %x, want %x", len(b), got, want)
	}
}

// P3.1: the frame of a load: the chapter's example, and any others.
func TestSeal(t *testing.T) {
	if b := mustSeal(t, []byte("a")); !bytes.Equal(b, []byte{0, 0, 0, 1, 0xe5, 0x8c, 0x97, 0x92, 0x61}) {
		t.Errorf("Seal of a = %x", b)
	}
	if b := mustSeal(t, nil); !bytes.Equal(b, []byte{0, 0, 0, 0, 0x21, 0x44, 0xdf, 0x1c}) {
		t.Errorf("Seal of none = %x", b)
	}
	loads := append(someLoads(), nil)
	for _, n := range []int{3, 7, 8, 9, 127, 128, 255, 256, 257, 511, 512, 4096, 65280, api.MaxFrame - 1, api.MaxFrame} {
		loads = append(loads, someBytes(n, 5))
	}
	for _, l := range loads {
		b := mustSeal(t, l)
		if !bytes.Equal(b, oracle(l)) {
			t.Errorf("Seal(%.40x) = %.40x, want %.40x", l, b, oracle(l))
		}
		checkOpen(t, b, l, len(l)+8, api.OK)
	}
}

// P3.1: MaxFrame bytes may be, one more may not.
func TestSealLong(t *testing.T) {
	if b := mustSeal(t, make([]byte, api.MaxFrame)); len(b) != api.MaxFrame+8 || b[1] != 1 || b[2] != 0 || b[3] != 0 {
		t.Errorf("Seal of MaxFrame bytes: %d bytes, %.8x", len(b), b)
	}
	for _, n := range []int{api.MaxFrame + 1, 2 * api.MaxFrame, 1 << 24} {
		if b, err := Seal(make([]byte, n)); len(b) != 0 || err != api.ErrFrameLong {
			t.Errorf("Seal of %d bytes: %d bytes, %d", n, len(b), err)
		}
	}
}

// P3.2: the load of a frame and the frame's bytes; what stands behind is let be, whatever it is.
func TestOpen(t *testing.T) {
	loads := append(someLoads(), someBytes(api.MaxFrame, 6), make([]byte, api.MaxFrame))
	for _, l := range loads {
		b := oracle(l)
		for _, rest := range [][]byte{nil, {0}, {9, 9}, oracle([]byte("b")), bytes.Repeat([]byte{0xff}, 20)} {
			checkOpen(t, append(bytes.Clone(b), rest...), l, len(b), api.OK)
		}
	}
}

// P3.2: each error where it stands alone, and where others would come later.
func TestOpenWrong(t *testing.T) {
	most := oracle(make([]byte, api.MaxFrame))
	a := oracle([]byte("a"))
	rest := make([]byte, api.MaxFrame+9)
	head := func(length uint32, rest []byte) []byte {
		return append(binary.BigEndian.AppendUint32(nil, length), rest...)
	}
	for _, c := range []struct {
		b   []byte
		err api.Errno
	}{
		{nil, api.ErrFrameShort},
		{[]byte{}, api.ErrFrameShort},
		{[]byte{0, 0, 0, 0}, api.ErrFrameShort},
		{[]byte{0xff, 0xff, 0xff, 0xff}, api.ErrFrameShort}, // ahead of its being too long
		{[]byte{0xff, 0xff, 0xff, 0xff, 0, 0, 0}, api.ErrFrameShort},
		{a[:7], api.ErrFrameShort},
		{a[:8], api.ErrFrameShort},
		{most[:8], api.ErrFrameShort},
		{most[:len(most)-1], api.ErrFrameShort},
		{head(1, rest[:4]), api.ErrFrameShort}, // ahead of the sum's being another one
		{head(2, a[4:]), api.ErrFrameShort},    // one byte more than stands there
		{head(api.MaxFrame, rest[:4]), api.ErrFrameShort},
		{head(api.MaxFrame, rest[:4+api.MaxFrame-1]), api.ErrFrameShort},

		{head(api.MaxFrame+1, rest[:4]), api.ErrFrameLong}, // ahead of its being short
		{head(api.MaxFrame+1, rest), api.ErrFrameLong},     // ahead of the sum's being another one
		{head(1<<24, rest[:4]), api.ErrFrameLong},
		{head(math.MaxInt32, rest[:4]), api.ErrFrameLong},
		{head(1<<31, rest[:4]), api.ErrFrameLong},
		{head(math.MaxUint32-7, rest[:4]), api.ErrFrameLong}, // with the eight bytes ahead it is 2^32
		{head(math.MaxUint32, rest[:4]), api.ErrFrameLong},
		{head(math.MaxUint32, rest), api.ErrFrameLong},

		{head(0, rest[:4]), api.ErrFrameSum},
		{head(0, a[4:]), api.ErrFrameSum}, // the sum is of the length too
		{head(api.MaxFrame, rest[:4+api.MaxFrame]), api.ErrFrameSum},
		{make([]byte, 8), api.ErrFrameSum},
		{make([]byte, 100), api.ErrFrameSum},
		{append(head(1, binary.BigEndian.AppendUint32(nil, crc32.ChecksumIEEE([]byte("a")))), 'a'), api.ErrFrameSum},                 // the load's own sum
		{append(head(1, binary.LittleEndian.AppendUint32(nil, 0xe58c9792)), 'a'), api.ErrFrameSum},                                   // the lowest ones first
		{append(binary.LittleEndian.AppendUint32(nil, 1), a[4:]...), api.ErrFrameLong},                                               // the lowest ones first
		{append(head(1, binary.BigEndian.AppendUint32(nil, crc32.ChecksumIEEE([]byte("a\x00\x00\x00\x01")))), 'a'), api.ErrFrameSum}, // the load first
	} {
		checkOpen(t, c.b, nil, 0, c.err)
		checkScan(t, c.b, nil, 0)
		checkScan(t, append(bytes.Clone(a), c.b...), [][]byte{[]byte("a")}, 9)
	}
	tooLong := append(head(api.MaxFrame+1, nil), rest[:4+api.MaxFrame+1]...) // with a right sum
	binary.BigEndian.PutUint32(tooLong[4:], crc32.ChecksumIEEE(append(bytes.Clone(tooLong[:4]), tooLong[8:]...)))
	checkOpen(t, tooLong, nil, 0, api.ErrFrameLong)
}

// P3.3: the loads of frames one behind the other, and the bytes that these have; what is no frame ends them.
func TestScan(t *testing.T) {
	checkScan(t, nil, nil, 0)
	checkScan(t, []byte{}, nil, 0)
	checkScan(t, []byte{1, 2}, nil, 0)
	ab, _ := joined([][]byte{[]byte("a"), []byte("b")})
	checkScan(t, append(ab, 9, 9), [][]byte{[]byte("a"), []byte("b")}, 18)
	b, _ := joined(someLoads())
	checkScan(t, b, someLoads(), len(b))
	for _, rest := range [][]byte{{0}, make([]byte, 7), make([]byte, 8), make([]byte, 99), bytes.Repeat([]byte{0xff}, 30), ab[1:]} {
		checkScan(t, append(bytes.Clone(b), rest...), someLoads(), len(b)) // what stands behind what is no frame isn't told
	}
	none := bytes.Repeat(oracle(nil), 1000)
	checkScan(t, none, make([][]byte, 1000), 8000)
	long, _ := joined([][]byte{make([]byte, api.MaxFrame), []byte("a"), someBytes(api.MaxFrame, 7)})
	checkScan(t, long, [][]byte{make([]byte, api.MaxFrame), []byte("a"), someBytes(api.MaxFrame, 7)}, len(long))
}

// P3.4: of frames that are cut anywhere just those that are whole.
func TestCutEverywhere(t *testing.T) {
	loads := someLoads()
	b, ends := joined(loads)
	whole, size := 0, 0
	for cut := range len(b) + 1 {
		if whole < len(ends) && cut == ends[whole] {
			whole, size = whole+1, cut
		}
		checkScan(t, b[:cut], loads[:whole], size)
		checkScan(t, append(bytes.Clone(b[:cut]), 0xee), loads[:whole], size) // in place of what was cut
		if cut < ends[0] {
			checkOpen(t, b[:cut], nil, 0, api.ErrFrameShort)
		}
	}
	if whole != len(loads) {
		t.Errorf("%d of %d loads were seen", whole, len(loads))
	}
}

// P3.4: each byte of a sum and of a load, turned in each way, is met, and ends what Scan tells.
func TestTurnedEverywhere(t *testing.T) {
	ahead := oracle([]byte("ahead"))
	for _, load := range [][]byte{nil, []byte("a"), make([]byte, 9), someBytes(40, 8)} {
		b := append(oracle(load), ahead...)
		for k := 4; k < 8+len(load); k++ {
			for turn := 1; turn < 256; turn++ {
				b[k] ^= byte(turn)
				checkOpen(t, b, nil, 0, api.ErrFrameSum)
				if turn%16 == 1 {
					checkScan(t, append(bytes.Clone(ahead), b...), [][]byte{[]byte("ahead")}, len(ahead))
				}
				b[k] ^= byte(turn)
			}
		}
	}
	b := oracle(someBytes(api.MaxFrame, 9))
	for _, k := range []int{4, 7, 8, 9, 1000, 32768, len(b) - 1} {
		b[k] ^= 0x10
		checkOpen(t, b, nil, 0, api.ErrFrameSum)
		b[k] ^= 0x10
	}
	checkOpen(t, b, b[8:], len(b), api.OK)
}

// P3.2 and P3.4: a length whose bytes are turned is met too, by one error or another.
func TestTurnedLengths(t *testing.T) {
	b := append(oracle(someBytes(20, 10)), make([]byte, 2*api.MaxFrame)...)
	for bit := range 32 {
		b[bit/8] ^= 1 << (bit % 8)
		length := binary.BigEndian.Uint32(b)
		want := api.ErrFrameSum
		if length > api.MaxFrame {
			want = api.ErrFrameLong
		}
		checkOpen(t, b, nil, 0, want)
		b[bit/8] ^= 1 << (bit % 8)
	}
}

// The rules that hold everywhere: what is handed in is neither changed nor kept, its spare room included.
func TestArgumentsAreLetBe(t *testing.T) {
	b, _ := joined(someLoads())
	roomy := append(make([]byte, 0, 2*len(b)+100), b...)
	spare := roomy[len(b):cap(roomy)]
	for k := range spare {
		spare[k] = 0xee
	}
	sealed := mustSeal(t, roomy)
	sum := Sum(roomy)
	load, size, _ := Open(roomy)
	loads, all := Scan(roomy)
	if !bytes.Equal(roomy, b) || !bytes.Equal(spare, bytes.Repeat([]byte{0xee}, len(spare))) {
		t.Fatal("what was handed in was changed")
	}
	for k := range roomy[:cap(roomy)] {
		roomy[:cap(roomy)][k] = 0x55
	}
	if !bytes.Equal(sealed, oracle(b)) || sum != Sum(b) || size != 9 || string(load) != "a" || all != len(b) || !sameLoads(loads, someLoads()) {
		t.Error("what was handed in was kept")
	}
}

// A load that was handed out may be changed and grown: nothing else changes, neither its neighbours nor what is told later.
func TestLoadsAreTheirOwn(t *testing.T) {
	b, _ := joined(someLoads())
	was := bytes.Clone(b)
	for k := range someLoads() {
		loads, _ := Scan(b)
		want := someLoads()
		for i := range loads[k][:cap(loads[k])] {
			loads[k][:cap(loads[k])][i] ^= 0xff
		}
		for i := range want[k] {
			want[k][i] ^= 0xff
		}
		grown := append(loads[k], bytes.Repeat([]byte{0xaa}, 200)...)
		if !bytes.Equal(grown[:len(want[k])], want[k]) || !sameLoads(loads, want) || !bytes.Equal(b, was) {
			t.Errorf("load %d: another one changed with it", k)
		}
	}
	load, _, _ := Open(b)
	for i := range load[:cap(load)] {
		load[:cap(load)][i] = 0xbb
	}
	_ = append(load, bytes.Repeat([]byte{0xaa}, 200)...)
	if !bytes.Equal(b, was) {
		t.Error("Open's load shares memory with what was handed in")
	}
	checkScan(t, b, someLoads(), len(b))
	first, second := mustSeal(t, b), mustSeal(t, b)
	for i := range first[:cap(first)] {
		first[:cap(first)][i] ^= 0xff
	}
	if !bytes.Equal(second, oracle(b)) || !bytes.Equal(b, was) {
		t.Error("Seal's frame shares memory")
	}
}

// P1 and P3.2 to P3.4: whatever bytes there are, each call ends, and Scan tells what Open does, one by one.
func TestAnyBytes(t *testing.T) {
	r := rand.New(rand.NewPCG(11, 12))
	for range 5000 {
		var b []byte
		for range r.IntN(6) {
			piece := oracle(someBytes(r.IntN(20), r.Uint64()))
			if r.IntN(3) == 0 {
				piece[r.IntN(len(piece))] ^= byte(r.UintN(3))
			}
			if r.IntN(6) == 0 {
				piece = piece[:r.IntN(len(piece))]
			}
			b = append(b, piece...)
		}
		var loads [][]byte
		all := 0
		for {
			load, size, err := Open(b[all:])
			if err != api.OK {
				break
			}
			if !bytes.Equal(mustSeal(t, load), b[all:all+size]) {
				t.Fatalf("Open(%x) tells what isn't there", b[all:])
			}
			loads, all = append(loads, load), all+size
		}
		checkScan(t, b, loads, all)
	}
}
