package rtu_test

import (
	"math"
	"slices"
	"testing"

	"bascule/api"
	"bascule/crc"
	"bascule/rtu"
)

// known are frames that are written out, with what they are made of.
var known = []struct {
	unit       int
	pdu, frame []byte
}{
	{1, []byte{4, 2, 255, 255}, []byte{1, 4, 2, 255, 255, 0xb8, 0x80}},
	{1, []byte{3, 0, 0, 0, 0x0a}, []byte{1, 3, 0, 0, 0, 0x0a, 0xc5, 0xcd}},
	{17, []byte{3, 0, 0x6b, 0, 3}, []byte{0x11, 3, 0, 0x6b, 0, 3, 0x76, 0x87}},
	{49, []byte("23456789"), append([]byte("123456789"), 0x37, 0x4b)},
}

// some answers n bytes, no two beside each other the same; another seed, other bytes.
func some(n, seed int) []byte {
	b := make([]byte, n)
	for k := range b {
		b[k] = byte(k*37 + k/256 + seed*101 + 5)
	}
	return b
}

// framed answers what a frame of a first byte and of others is, whatever that byte is.
func framed(first byte, pdu []byte) []byte {
	return crc.Add(append([]byte{first}, pdu...))
}

// holdFrame holds one frame that may be against what it has to be.
func holdFrame(t *testing.T, unit int, pdu, want []byte) {
	t.Helper()
	if f, e := rtu.Frame(unit, pdu); !slices.Equal(f, want) || e != api.OK {
		t.Errorf("Frame(%d, %x): %x, %d, not %x", unit, pdu, f, e, want)
	}
}

// holdSplit holds what one frame is split into against what it has to be.
func holdSplit(t *testing.T, frame []byte, unit int, pdu []byte) {
	t.Helper()
	if u, p, e := rtu.Split(frame); u != unit || !slices.Equal(p, pdu) || e != api.OK {
		t.Errorf("Split(%x): %d, %x, %d, not %d, %x", frame, u, p, e, unit, pdu)
	}
}

// refusesSplit holds that a frame is refused with an error, and nothing else.
func refusesSplit(t *testing.T, frame []byte, want api.Errno) {
	t.Helper()
	if u, p, e := rtu.Split(frame); u != 0 || len(p) != 0 || e != want {
		t.Errorf("Split(%x): %d, %x, %d, not %d", frame, u, p, e, want)
	}
}

// P5.1: frames that are known, the chapter's among them, both ways.
func TestKnownFrames(t *testing.T) {
	for _, x := range known {
		holdFrame(t, x.unit, x.pdu, x.frame)
		holdSplit(t, x.frame, x.unit, x.pdu)
	}
}

// P5.1: a frame is the unit's byte, the bytes, and the sum of all these; units from 0 to 247, from 1 to 253 bytes.
func TestFrame(t *testing.T) {
	for _, unit := range []int{0, 1, 127, 128, 246, 247} {
		for _, n := range []int{1, 2, 3, 100, 252, 253} {
			holdFrame(t, unit, some(n, unit), framed(byte(unit), some(n, unit)))
		}
	}
}

// P5.1: units below 0 and above 247, no bytes and more than 253, one beside the other.
func TestFrameRefuses(t *testing.T) {
	wrongUnits := []int{-1, -2, -247, -256, 248, 249, 255, 256, 257, 503, 65536, 1 << 32, 1<<32 + 1, math.MinInt, math.MaxInt}
	wrongSizes := []int{0, 254, 255, 256, 257, 509, 512, 65536, 65537}
	refused := func(unit, n int) {
		t.Helper()
		if f, e := rtu.Frame(unit, make([]byte, n)); len(f) != 0 || e != api.ErrArg {
			t.Errorf("Frame(%d, %d bytes): %x, %d", unit, n, f, e)
		}
	}
	for _, unit := range wrongUnits {
		for _, n := range append([]int{1, 2, 253}, wrongSizes...) {
			refused(unit, n)
		}
	}
	for _, n := range wrongSizes {
		for _, unit := range []int{0, 1, 247} {
			refused(unit, n)
		}
	}
	if f, e := rtu.Frame(1, nil); len(f) != 0 || e != api.ErrArg {
		t.Errorf("Frame(1, nil): %x, %d", f, e)
	}
}

// P5.1: frames of 4 bytes and of 256, and each size between, are split.
func TestSplit(t *testing.T) {
	for n := 1; n <= 253; n++ {
		holdSplit(t, framed(byte(n%248), some(n, n)), n%248, some(n, n))
	}
	holdSplit(t, framed(0, []byte{0}), 0, []byte{0})
	holdSplit(t, framed(247, []byte{255}), 247, []byte{255})
}

// P5.1: below 4 bytes there are too few, whatever they are: a sum that is right, or wrong, a first byte above 247.
func TestSplitTooFew(t *testing.T) {
	for _, b := range [][]byte{nil, {}, {0}, {1}, {248}, {255, 255}, {1, 2}, {1, 2, 3}, {248, 0, 0}, {0, 0, 0}, framed(1, nil), framed(247, nil), framed(248, nil), framed(255, nil)} {
		refusesSplit(t, b, api.ErrMore)
	}
	whole := framed(9, []byte{1})
	for n := range whole {
		refusesSplit(t, whole[:n], api.ErrMore)
	}
}

// P5.1: above 256 bytes there are too many, whatever they are.
func TestSplitTooMany(t *testing.T) {
	for _, n := range []int{254, 255, 256, 300, 509, 65533} {
		for _, first := range []byte{0, 1, 247, 248, 255} {
			b := framed(first, some(n, 1))
			refusesSplit(t, b, api.ErrLong)
			b[len(b)-1] ^= 1
			refusesSplit(t, b, api.ErrLong)
		}
		refusesSplit(t, make([]byte, n+3), api.ErrLong)
	}
}

// P5.1: of all first bytes, with a sum that is right, those above 247 are refused; with one that is wrong the sum is named ahead of that.
func TestSplitFirstByte(t *testing.T) {
	for first := range 256 {
		for _, n := range []int{1, 5, 253} {
			b := framed(byte(first), some(n, 3))
			if first <= 247 {
				holdSplit(t, b, first, some(n, 3))
			} else {
				refusesSplit(t, b, api.ErrArg)
			}
			b[len(b)-1] ^= 0x80
			refusesSplit(t, b, api.ErrCrc)
		}
	}
}

// P5.1: a frame one bit of which was turned is refused, whichever bit it was.
func TestSplitOneBitTurned(t *testing.T) {
	frames := [][]byte{framed(0, []byte{0}), framed(247, []byte{255}), framed(247, some(253, 7)), framed(1, some(252, 8))}
	for _, x := range known {
		frames = append(frames, slices.Clone(x.frame))
	}
	for _, f := range frames {
		for bit := range 8 * len(f) {
			f[bit/8] ^= 1 << (bit % 8)
			refusesSplit(t, f, api.ErrCrc)
			f[bit/8] ^= 1 << (bit % 8)
		}
	}
}

// P5.1: sums that do not hold: the bytes of one the other way round, none, one of other bytes, a frame that lost or got a byte.
func TestSplitWrongSum(t *testing.T) {
	for _, b := range [][]byte{
		{0, 0, 0, 0},
		{255, 255, 255, 255},
		{248, 0, 0, 0},
		{1, 4, 2, 255, 255, 0x80, 0xb8},
		{1, 4, 2, 255, 255},
		{1, 4, 2, 255, 255, 0xb8},
		{4, 2, 255, 255, 0xb8, 0x80},
		{1, 4, 2, 255, 255, 0xb8, 0x80, 1},
		{2, 4, 2, 255, 255, 0xb8, 0x80},
		make([]byte, 256),
	} {
		refusesSplit(t, b, api.ErrCrc)
	}
}
