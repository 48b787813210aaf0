package varint_test

import (
	"math"
	"slices"
	"testing"

	"bascule/api"
	"bascule/varint"
)

// known is a length, and its bytes.
type known struct {
	n int
	b []byte
}

// knowns are the lengths at the edges, and some between, with their bytes worked out by hand.
func knowns() []known {
	return []known{
		{0, []byte{0x00}},
		{1, []byte{0x01}},
		{2, []byte{0x02}},
		{64, []byte{0x40}},
		{126, []byte{0x7e}},
		{127, []byte{0x7f}},
		{128, []byte{0x80, 0x01}},
		{129, []byte{0x81, 0x01}},
		{255, []byte{0xff, 0x01}},
		{256, []byte{0x80, 0x02}},
		{321, []byte{0xc1, 0x02}},
		{16256, []byte{0x80, 0x7f}},
		{16383, []byte{0xff, 0x7f}},
		{16384, []byte{0x80, 0x80, 0x01}},
		{16385, []byte{0x81, 0x80, 0x01}},
		{16512, []byte{0x80, 0x81, 0x01}},
		{65535, []byte{0xff, 0xff, 0x03}},
		{2097151, []byte{0xff, 0xff, 0x7f}},
		{2097152, []byte{0x80, 0x80, 0x80, 0x01}},
		{2097153, []byte{0x81, 0x80, 0x80, 0x01}},
		{2113536, []byte{0x80, 0x80, 0x81, 0x01}},
		{266338304, []byte{0x80, 0x80, 0x80, 0x7f}},
		{268435454, []byte{0xfe, 0xff, 0xff, 0x7f}},
		{268435455, []byte{0xff, 0xff, 0xff, 0x7f}},
	}
}

// noLengths are numbers that are no lengths.
func noLengths() []int {
	return []int{-1, -2, -127, -128, -129, -268435455, -268435456, math.MinInt32, math.MinInt64, math.MinInt64 + 1,
		268435456, 268435457, 268435455 + 128, 536870911, math.MaxInt32, 1 << 32, 1<<32 + 5, math.MaxInt64}
}

// P8.1: the bytes of lengths, and how many they are.
func TestPutAndSize(t *testing.T) {
	for _, x := range knowns() {
		if b, e := varint.Put(x.n); !slices.Equal(b, x.b) || e != api.OK {
			t.Errorf("Put(%d): %x, %d, not %x", x.n, b, e, x.b)
		}
		if k, e := varint.Size(x.n); k != len(x.b) || e != api.OK {
			t.Errorf("Size(%d): %d, %d, not %d", x.n, k, e, len(x.b))
		}
	}
}

// P8.1: a number that is no length is refused, with nothing beside the error.
func TestNoLength(t *testing.T) {
	for _, n := range noLengths() {
		if b, e := varint.Put(n); len(b) != 0 || e != api.ErrArg {
			t.Errorf("Put(%d): %x, %d", n, b, e)
		}
		if k, e := varint.Size(n); k != 0 || e != api.ErrArg {
			t.Errorf("Size(%d): %d, %d", n, k, e)
		}
	}
}

// P8.2: lengths that stand alone, behind other bytes, and ahead of others, whatever these are.
func TestAt(t *testing.T) {
	beside := [][]byte{nil, {0x00}, {0x7f}, {0x80}, {0xff}, {0x80, 0x80, 0x80, 0x80, 0x80}, {0x00, 0x00}, {0x80, 0x00}, {0x01, 0xff, 0xff, 0xff, 0xff}}
	for _, x := range knowns() {
		for _, ahead := range beside {
			for _, behind := range beside {
				b := slices.Concat(ahead, x.b, behind)
				n, next, e := varint.At(b, len(ahead))
				if n != x.n || next != len(ahead)+len(x.b) || e != api.OK {
					t.Errorf("At(%x, %d): %d, %d, %d, not %d", b, len(ahead), n, next, e, x.n)
				}
			}
		}
	}
}

// refused holds that At answers an error, and nothing beside it.
func refused(t *testing.T, b []byte, i int, want api.Errno) {
	t.Helper()
	if n, next, e := varint.At(b, i); n != 0 || next != 0 || e != want {
		t.Errorf("At(%x, %d): %d, %d, %d, not %d", b, i, n, next, e, want)
	}
}

// P8.2: a place below 0 is refused, whatever the bytes are.
func TestAtBelowNought(t *testing.T) {
	for _, b := range [][]byte{nil, {}, {0x00}, {0x80}, {0x80, 0x00}, {0x80, 0x80, 0x80, 0x80}, {0x01, 0x02, 0x03}} {
		for _, i := range []int{-1, -2, -4, math.MinInt32, math.MinInt64} {
			refused(t, b, i, api.ErrArg)
		}
	}
}

// P8.2: at the end of the bytes, and behind it, there are too few.
func TestAtTheEnd(t *testing.T) {
	for _, b := range [][]byte{nil, {}, {0x00}, {0x80}, {0x80, 0x00}, {0x80, 0x80, 0x80, 0x80}, {0x01, 0x02, 0x03}} {
		for _, more := range []int{0, 1, 2, 3, 4, 5, 100, math.MaxInt32} {
			refused(t, b, len(b)+more, api.ErrMore)
		}
		for _, i := range []int{math.MaxInt64, math.MaxInt64 - 1, math.MaxInt64 - 3, math.MaxInt64 - 4} {
			refused(t, b, i, api.ErrMore)
		}
	}
}

// P8.2: up to three bytes of 128 or more, with none behind them, are too few.
func TestAtCutShort(t *testing.T) {
	for _, high := range []byte{0x80, 0x81, 0xc1, 0xff} {
		for many := range 4 {
			for ahead := range 6 {
				b := append(make([]byte, ahead), slices.Repeat([]byte{high}, many)...)
				refused(t, b, ahead, api.ErrMore)
			}
		}
	}
}

// P8.2: what lies in the room behind the bytes is not read.
func TestAtReadsNoRoom(t *testing.T) {
	for many := range 4 {
		whole := append(slices.Repeat([]byte{0x80}, many), 0x01, 0x01)
		refused(t, whole[:many], 0, api.ErrMore)
	}
	refused(t, []byte{0x05, 0x06}[:1], 1, api.ErrMore)
}

// P8.2: four bytes of 128 or more begin no length, whatever stands behind them.
func TestAtFourHigh(t *testing.T) {
	for _, high := range []byte{0x80, 0x81, 0xff} {
		for _, behind := range [][]byte{nil, {0x00}, {0x01}, {0x7f}, {0x80}, {0xff, 0x01}} {
			for ahead := range 3 {
				b := slices.Concat(make([]byte, ahead), slices.Repeat([]byte{high}, 4), behind)
				refused(t, b, ahead, api.ErrForm)
			}
		}
	}
}

// P8.2: a last byte that is 0 is refused, unless it is the first one too.
func TestAtLastIsNought(t *testing.T) {
	for _, high := range []byte{0x80, 0x81, 0xff} {
		for many := range 4 {
			for _, behind := range [][]byte{nil, {0x00}, {0x01}, {0x80}} {
				b := slices.Concat(slices.Repeat([]byte{high}, many), []byte{0x00}, behind)
				if many > 0 {
					refused(t, b, 0, api.ErrForm)
				}
				if n, next, e := varint.At(b, many); n != 0 || next != many+1 || e != api.OK {
					t.Errorf("At(%x, %d): %d, %d, %d", b, many, n, next, e)
				}
			}
		}
	}
}

// P8.2: a 0 that is not the last byte of a length is a digit as any other.
func TestAtNoughtsWithin(t *testing.T) {
	for _, x := range []known{{1 << 7, []byte{0x80, 0x01}}, {1 << 14, []byte{0x80, 0x80, 0x01}}, {1 << 21, []byte{0x80, 0x80, 0x80, 0x01}}, {1<<21 + 1<<7, []byte{0x80, 0x81, 0x80, 0x01}}} {
		if n, next, e := varint.At(x.b, 0); n != x.n || next != len(x.b) || e != api.OK {
			t.Errorf("At(%x, 0): %d, %d, %d, not %d", x.b, n, next, e, x.n)
		}
	}
}
