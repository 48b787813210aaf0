package wire_test

import (
	"math"
	"slices"
	"strings"
	"testing"

	"bascule/api"
	"bascule/wire"
)

// wrongWords are numbers that are no word; the lower bytes of some are those of one.
var wrongWords = []int{-1, -2, -65535, -65536, 65536, 65537, 131071, 1 << 32, 1<<32 + 7, math.MaxInt, math.MinInt}

// belowNought are places and counts that may not be.
var belowNought = []int{-1, -2, -8, -65536, math.MinInt + 1, math.MinInt}

// farBehind are places and counts that are behind all bytes, up to where one more would wrap round.
var farBehind = []int{1 << 20, 1 << 31, 1 << 32, 1 << 61, 1<<61 + 1, math.MaxInt - 9, math.MaxInt - 8, math.MaxInt - 7, math.MaxInt - 2, math.MaxInt - 1, math.MaxInt}

// P1.1: a word comes behind the bytes, the higher byte first.
func TestPut(t *testing.T) {
	for _, x := range []struct {
		b    []byte
		n    int
		want []byte
	}{
		{nil, 0, []byte{0, 0}},
		{[]byte{}, 1, []byte{0, 1}},
		{nil, 255, []byte{0, 255}},
		{nil, 256, []byte{1, 0}},
		{[]byte{7}, 258, []byte{7, 1, 2}},
		{nil, 32767, []byte{127, 255}},
		{nil, 32768, []byte{128, 0}},
		{[]byte{1, 2, 3}, 65534, []byte{1, 2, 3, 255, 254}},
		{[]byte{0, 255}, 65535, []byte{0, 255, 255, 255}},
	} {
		if b, e := wire.Put(x.b, x.n); !slices.Equal(b, x.want) || e != api.OK {
			t.Errorf("Put(%x, %d): %x, %d", x.b, x.n, b, e)
		}
	}
}

// P1.1: a number that is no word is refused, and nothing is told beside it.
func TestPutNoWord(t *testing.T) {
	for _, n := range wrongWords {
		for _, b := range [][]byte{nil, {7}, {1, 2, 3}} {
			if out, e := wire.Put(b, n); len(out) != 0 || e != api.ErrArg {
				t.Errorf("Put(%x, %d): %x, %d", b, n, out, e)
			}
		}
	}
}

// P1.1: the word at each place that has two bytes, and ErrMore at the others.
func TestAt(t *testing.T) {
	b := []byte{7, 1, 2, 255, 255, 0, 0, 128}
	for i := range len(b) - 1 {
		want := int(b[i])*256 + int(b[i+1])
		if n, e := wire.At(b, i); n != want || e != api.OK {
			t.Errorf("At(%x, %d): %d, %d", b, i, n, e)
		}
	}
	behind := append([]int{len(b) - 1, len(b), len(b) + 1}, farBehind...)
	for _, i := range behind {
		if n, e := wire.At(b, i); n != 0 || e != api.ErrMore {
			t.Errorf("At(%x, %d): %d, %d", b, i, n, e)
		}
	}
}

// P1.1: bytes that are too few have no word, even if there is room behind them.
func TestAtFewBytes(t *testing.T) {
	for _, b := range [][]byte{nil, {}, {7}, []byte{7, 1, 2}[:1]} {
		for _, i := range []int{0, 1, 2, math.MaxInt} {
			if n, e := wire.At(b, i); n != 0 || e != api.ErrMore {
				t.Errorf("At(%x, %d): %d, %d", b, i, n, e)
			}
		}
	}
}

// P1.1 and R1: a place below 0 is refused as such, even where bytes are wanting, too.
func TestAtBelowNought(t *testing.T) {
	for _, i := range belowNought {
		for _, b := range [][]byte{nil, {7}, {7, 1, 2}} {
			if n, e := wire.At(b, i); n != 0 || e != api.ErrArg {
				t.Errorf("At(%x, %d): %d, %d", b, i, n, e)
			}
		}
	}
}

// P1.2: a text comes behind the bytes, as its length and its bytes, whatever these are.
func TestPutText(t *testing.T) {
	for _, x := range []struct {
		b    []byte
		s    string
		want []byte
	}{
		{nil, "", []byte{0, 0}},
		{[]byte{9}, "", []byte{9, 0, 0}},
		{nil, "ab", []byte{0, 2, 'a', 'b'}},
		{[]byte{9, 8}, "ab", []byte{9, 8, 0, 2, 'a', 'b'}},
		{[]byte{1}, "\x00\xff\xc3", []byte{1, 0, 3, 0, 255, 0xc3}},
		{nil, "é", []byte{0, 2, 0xc3, 0xa9}},
	} {
		if b, e := wire.PutText(x.b, x.s); !slices.Equal(b, x.want) || e != api.OK {
			t.Errorf("PutText(%x, %q): %x, %d", x.b, x.s, b, e)
		}
	}
}

// P1.2: long texts, up to the longest that may be.
func TestPutTextLong(t *testing.T) {
	for _, n := range []int{255, 256, 257, 32768, 65534, 65535} {
		s := strings.Repeat("y", n-1) + "z"
		want := append([]byte{9, byte(n / 256), byte(n % 256)}, s...)
		b, e := wire.PutText([]byte{9}, s)
		if !slices.Equal(b, want) || e != api.OK {
			t.Errorf("PutText of %d bytes: %d bytes, %d", n, len(b), e)
		}
		if told, i, e := wire.TextAt(b, 1); told != s || i != n+3 || e != api.OK {
			t.Errorf("TextAt of %d bytes: %d bytes, %d, %d", n, len(told), i, e)
		}
	}
}

// P1.2: a text that is too long is refused, and nothing is told beside it.
func TestPutTextTooLong(t *testing.T) {
	for _, n := range []int{65536, 65537, 131072, 1 << 20} {
		for _, b := range [][]byte{nil, {7}} {
			if out, e := wire.PutText(b, strings.Repeat("x", n)); len(out) != 0 || e != api.ErrLong {
				t.Errorf("PutText(%x, %d bytes): %d bytes, %d", b, n, len(out), e)
			}
		}
	}
}

// P1.2: the bytes of a text, and the place behind it.
func TestTextAt(t *testing.T) {
	for _, x := range []struct {
		b    []byte
		i    int
		s    string
		next int
	}{
		{[]byte{0, 0}, 0, "", 2},
		{[]byte{9, 0, 0}, 1, "", 3},
		{[]byte{0, 2, 'a', 'b'}, 0, "ab", 4},
		{[]byte{0, 2, 'a', 'b', 'c'}, 0, "ab", 4},
		{[]byte{9, 0, 1, 0xff, 0, 0}, 1, "\xff", 4},
		{[]byte{9, 0, 1, 0xff, 0, 0}, 4, "", 6},
		{[]byte{0, 3, 0, 0xc3, 'a'}, 0, "\x00\xc3a", 5},
	} {
		if s, next, e := wire.TextAt(x.b, x.i); s != x.s || next != x.next || e != api.OK {
			t.Errorf("TextAt(%x, %d): %q, %d, %d", x.b, x.i, s, next, e)
		}
	}
}

// noText holds that no text is told at a place, but an error and noughts.
func noText(t *testing.T, b []byte, i int, want api.Errno) {
	t.Helper()
	if s, next, e := wire.TextAt(b, i); s != "" || next != 0 || e != want {
		t.Errorf("TextAt(%d bytes, %d): %q, %d, %d", len(b), i, s, next, e)
	}
}

// P1.2: a text that ends too early is not told, wherever it ends, even if there is room behind it.
func TestTextAtCut(t *testing.T) {
	whole := []byte{9, 9, 0, 3, 'a', 'b', 'c'}
	for n := range len(whole) {
		noText(t, whole[:n], 2, api.ErrMore)
		noText(t, slices.Clone(whole[:n]), 2, api.ErrMore)
	}
	longest := append([]byte{255, 255}, make([]byte, 65534)...)
	noText(t, longest, 0, api.ErrMore)
	noText(t, nil, 0, api.ErrMore)
	noText(t, []byte{255, 255}, 0, api.ErrMore)
}

// P1.2: places at the end of the bytes, behind it, and below 0.
func TestTextAtNoPlace(t *testing.T) {
	b := []byte{0, 2, 'a', 'b'}
	behind := append([]int{len(b) - 1, len(b), len(b) + 1}, farBehind...)
	for _, i := range behind {
		noText(t, b, i, api.ErrMore)
	}
	for _, i := range belowNought {
		noText(t, b, i, api.ErrArg)
		noText(t, nil, i, api.ErrArg)
	}
}

// P1.3: bits as bytes, the first one the lowest; what is left of the last byte is 0.
func TestPack(t *testing.T) {
	for _, x := range []struct {
		bits []int
		want []byte
	}{
		{nil, nil},
		{[]int{}, nil},
		{[]int{0}, []byte{0}},
		{[]int{1}, []byte{1}},
		{[]int{1, 0, 1}, []byte{5}},
		{[]int{0, 0, 0, 0, 0, 0, 1}, []byte{64}},
		{[]int{0, 0, 0, 0, 0, 0, 0, 1}, []byte{128}},
		{[]int{1, 1, 1, 1, 1, 1, 1, 1}, []byte{255}},
		{[]int{1, 0, 1, 0, 0, 0, 0, 0, 1}, []byte{5, 1}},
		{[]int{0, 0, 0, 0, 0, 0, 0, 0, 0}, []byte{0, 0}},
		{[]int{1, 1, 0, 0, 1, 1, 0, 1, 0, 1, 1, 0, 1, 0, 1, 1}, []byte{0xb3, 0xd6}},
	} {
		if b, e := wire.Pack(x.bits); !slices.Equal(b, x.want) || e != api.OK {
			t.Errorf("Pack(%v): %x, %d", x.bits, b, e)
		}
	}
}

// P1.3: each bit alone has its own byte and weight.
func TestPackEachBit(t *testing.T) {
	const n = 27
	for k := range n {
		bits := make([]int, n)
		bits[k] = 1
		want := make([]byte, 4)
		want[k/8] = []byte{1, 2, 4, 8, 16, 32, 64, 128}[k%8]
		if b, e := wire.Pack(bits); !slices.Equal(b, want) || e != api.OK {
			t.Errorf("Pack of the bit %d: %x, %d", k, b, e)
		}
		if l, e := wire.Unpack(want, n); !slices.Equal(l, bits) || e != api.OK {
			t.Errorf("Unpack of the bit %d: %v, %d", k, l, e)
		}
	}
}

// P1.3: one number that is no bit, wherever it stands, and nothing is packed.
func TestPackNoBit(t *testing.T) {
	for _, wrong := range []int{-1, 2, 3, 255, 256, 257, 1 << 32, 1<<32 + 1, math.MaxInt, math.MinInt, math.MinInt + 1} {
		for k := range 17 {
			bits := make([]int, 17)
			bits[k] = wrong
			if b, e := wire.Pack(bits); len(b) != 0 || e != api.ErrArg {
				t.Errorf("Pack with %d at %d: %x, %d", wrong, k, b, e)
			}
		}
	}
}

// P1.3: the first bits, as many as are asked for, and no others.
func TestUnpack(t *testing.T) {
	b := []byte{0xb3, 0xd6, 0xff}
	all := []int{1, 1, 0, 0, 1, 1, 0, 1, 0, 1, 1, 0, 1, 0, 1, 1, 1, 1, 1, 1, 1, 1, 1, 1}
	for n := range len(all) + 1 {
		if bits, e := wire.Unpack(b, n); !slices.Equal(bits, all[:n]) || e != api.OK {
			t.Errorf("Unpack(%x, %d): %v, %d", b, n, bits, e)
		}
	}
	for _, b := range [][]byte{nil, {}, {255}} {
		if bits, e := wire.Unpack(b, 0); len(bits) != 0 || e != api.OK {
			t.Errorf("Unpack(%x, 0): %v, %d", b, bits, e)
		}
	}
}

// noBits holds that no bits are told, but an error.
func noBits(t *testing.T, b []byte, n int, want api.Errno) {
	t.Helper()
	if bits, e := wire.Unpack(b, n); len(bits) != 0 || e != want {
		t.Errorf("Unpack(%x, %d): %d bits, %d", b, n, len(bits), e)
	}
}

// P1.3: more bits than there are, and counts below 0.
func TestUnpackNoCount(t *testing.T) {
	room := []byte{5, 255, 255, 255}
	for size := range 3 {
		b := room[:size]
		for more := 1; more < 18; more++ {
			noBits(t, b, 8*size+more, api.ErrMore)
		}
		for _, n := range farBehind {
			noBits(t, b, n, api.ErrMore)
		}
		for _, n := range belowNought {
			noBits(t, b, n, api.ErrArg)
		}
	}
	noBits(t, nil, 1, api.ErrMore)
	noBits(t, nil, -1, api.ErrArg)
}
