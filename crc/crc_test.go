package crc_test

import (
	"math"
	"slices"
	"testing"

	"bascule/api"
	"bascule/crc"
)

// wrongSums are numbers that are no word; the lower bytes of some are those of one.
var wrongSums = []int{-1, -2, -65535, -65536, 65536, 65537, 131071, 1 << 31, 1 << 32, 1<<32 + 0xffff, math.MaxInt, math.MinInt, math.MinInt + 1}

// ordinary are bytes with the sums that they have.
var ordinary = []struct {
	b   []byte
	sum int
}{
	{nil, 0xffff},
	{[]byte{}, 0xffff},
	{[]byte{0x00}, 0x40bf},
	{[]byte{0xff}, 0x00ff},
	{[]byte{0xff, 0xff}, 0x0000},
	{[]byte{0x01, 0x04, 0x02, 0xff, 0xff}, 0x80b8},
	{[]byte{0x01, 0x03, 0x00, 0x00, 0x00, 0x0a}, 0xcdc5},
	{[]byte{0x11, 0x03, 0x00, 0x6b, 0x00, 0x03}, 0x8776},
	{[]byte("123456789"), 0x4b37},
}

// remainder is the sum once more, by another road: the bits as they go over a line are a polynomial, and the sum is what its division by x^16 + x^15 + x^2 + 1 leaves, with all of it mirrored.
func remainder(b []byte) int {
	rest := uint32(0xffff)
	for _, x := range b {
		for k := range 8 {
			rest = rest<<1 ^ uint32(x>>k&1)<<16
			if rest>>16&1 == 1 {
				rest ^= 1<<16 | 1<<15 | 1<<2 | 1
			}
		}
	}
	mirrored := 0
	for k := range 16 {
		mirrored |= int(rest>>k&1) << (15 - k)
	}
	return mirrored
}

// someRows are rows of bytes of all lengths below n; the same ones at each run.
func someRows(n int) [][]byte {
	var rows [][]byte
	x := uint32(1)
	for size := range n {
		row := make([]byte, size)
		for k := range row {
			x = x*1664525 + 1013904223
			row[k] = byte(x >> 24)
		}
		rows = append(rows, row)
	}
	return rows
}

// P2.1: sums that are known, that of no bytes among them.
func TestSum(t *testing.T) {
	for _, x := range ordinary {
		if n := crc.Sum(x.b); n != x.sum {
			t.Errorf("Sum(%x): %04x, not %04x", x.b, n, x.sum)
		}
	}
}

// P2.1: each row of one byte and of two, and some of all lengths.
func TestSumByAnotherRoad(t *testing.T) {
	rows := someRows(300)
	for x := range 256 {
		rows = append(rows, []byte{byte(x)})
		for y := range 256 {
			rows = append(rows, []byte{byte(x), byte(y)})
		}
	}
	for _, b := range rows {
		if n, want := crc.Sum(b), remainder(b); n != want {
			t.Fatalf("Sum(%x): %04x, not %04x", b, n, want)
		}
	}
}

// P2.1: the sum is that of a step a byte, from ffff on.
func TestSumIsSteps(t *testing.T) {
	for _, b := range someRows(80) {
		sum := 0xffff
		for _, x := range b {
			var e api.Errno
			if sum, e = crc.Step(sum, x); e != api.OK {
				t.Fatalf("Step in %x: %d", b, e)
			}
		}
		if n := crc.Sum(b); n != sum {
			t.Errorf("Sum(%x): %04x, by steps %04x", b, n, sum)
		}
	}
}

// stepped is what the promise says of a step, word by word.
func stepped(sum int, x byte) int {
	n := sum ^ int(x)
	for range 8 {
		odd := n%2 == 1
		n /= 2
		if odd {
			n ^= 0xa001
		}
	}
	return n
}

// P2.1: one step from each sum with some bytes, and with each byte from some sums, 0 and ffff among them.
func TestStep(t *testing.T) {
	for sum := range api.MaxWord + 1 {
		for _, x := range []byte{0x00, 0x01, 0x02, 0x5a, 0x7f, 0x80, 0xfe, 0xff} {
			holdStep(t, sum, x)
		}
	}
	for x := range 256 {
		for _, sum := range []int{0, 1, 2, 0xff, 0x100, 0x7fff, 0x8000, 0xa001, 0xfffe, 0xffff} {
			holdStep(t, sum, byte(x))
		}
	}
}

// holdStep holds one step against what the promise says.
func holdStep(t *testing.T, sum int, x byte) {
	t.Helper()
	if n, e := crc.Step(sum, x); n != stepped(sum, x) || e != api.OK {
		t.Fatalf("Step(%04x, %02x): %04x, %d, not %04x", sum, x, n, e, stepped(sum, x))
	}
}

// P2.1: steps that are known.
func TestStepKnown(t *testing.T) {
	for _, x := range []struct {
		sum  int
		b    byte
		want int
	}{
		{0, 0, 0},
		{0, 0x80, 0xa001},
		{0, 1, 0xc0c1},
		{0xffff, 0xff, 0x00ff},
		{0xffff, 0, 0x40bf},
		{0x00ff, 0xff, 0},
	} {
		if n, e := crc.Step(x.sum, x.b); n != x.want || e != api.OK {
			t.Errorf("Step(%04x, %02x): %04x, %d, not %04x", x.sum, x.b, n, e, x.want)
		}
	}
}

// P2.1: a sum that is no word is refused, and nothing is told beside it.
func TestStepNoWord(t *testing.T) {
	for _, sum := range wrongSums {
		for x := range 256 {
			if n, e := crc.Step(sum, byte(x)); n != 0 || e != api.ErrArg {
				t.Errorf("Step(%d, %02x): %d, %d", sum, x, n, e)
			}
		}
	}
}

// P2.2: the bytes, then the lower byte of the sum, then the higher one.
func TestAdd(t *testing.T) {
	for _, x := range ordinary {
		want := append(slices.Clone(x.b), byte(x.sum%256), byte(x.sum/256))
		if b := crc.Add(x.b); !slices.Equal(b, want) {
			t.Errorf("Add(%x): %x, not %x", x.b, b, want)
		}
	}
	for _, row := range someRows(300) {
		sum := remainder(row)
		want := append(slices.Clone(row), byte(sum%256), byte(sum/256))
		if b := crc.Add(row); !slices.Equal(b, want) {
			t.Errorf("Add(%x): %x, not %x", row, b, want)
		}
	}
}

// P2.2: rows whose sum is 0 or ffff.
func TestAddEdges(t *testing.T) {
	for _, x := range []struct{ b, want []byte }{
		{nil, []byte{0xff, 0xff}},
		{[]byte{0xff, 0xff}, []byte{0xff, 0xff, 0, 0}},
		{[]byte{0xff, 0xff, 0}, []byte{0xff, 0xff, 0, 0, 0}},
		{sumAll(t), append(sumAll(t), 0xff, 0xff)},
	} {
		if b := crc.Add(x.b); !slices.Equal(b, x.want) {
			t.Errorf("Add(%x): %x, not %x", x.b, b, x.want)
		}
	}
}

// sumAll are the two bytes of which the sum is ffff.
func sumAll(t *testing.T) []byte {
	t.Helper()
	for x := range 256 {
		for y := range 256 {
			if b := []byte{byte(x), byte(y)}; remainder(b) == 0xffff {
				return b
			}
		}
	}
	t.Fatal("no two bytes have the sum ffff")
	return nil
}

// P2.2: fewer than two bytes are never good; of two bytes ff ff alone are.
func TestGoodFewBytes(t *testing.T) {
	if crc.Good(nil) || crc.Good([]byte{}) {
		t.Errorf("no bytes are good")
	}
	for x := range 256 {
		if crc.Good([]byte{byte(x)}) {
			t.Errorf("the byte %02x is good", x)
		}
		for y := range 256 {
			if got := crc.Good([]byte{byte(x), byte(y)}); got != (x == 255 && y == 255) {
				t.Errorf("Good(%02x %02x): %v", x, y, got)
			}
		}
	}
}

// P2.2: room behind the bytes does not count.
func TestGoodWithoutItsRoom(t *testing.T) {
	for _, row := range someRows(20) {
		whole := crc.Add(row)
		for n := range whole {
			if got, alone := crc.Good(whole[:n]), crc.Good(slices.Clone(whole[:n])); got != alone {
				t.Errorf("Good of %d bytes of %x: %v, alone %v", n, whole, got, alone)
			}
		}
	}
	if crc.Good([]byte{0xff, 0xff}[:1]) || crc.Good([]byte{0xff, 0xff}[:0]) {
		t.Errorf("bytes are good by their room")
	}
}

// P2.2: behind a row, of all pairs of bytes, its sum alone is good, its lower byte first.
func TestGoodBehindARow(t *testing.T) {
	for _, row := range [][]byte{{1}, {0xff, 0xff}, {1, 4, 2, 255, 255}} {
		sum := remainder(row)
		b := append(slices.Clone(row), 0, 0)
		for n := range api.MaxWord + 1 {
			b[len(row)], b[len(row)+1] = byte(n%256), byte(n/256)
			if got := crc.Good(b); got != (n == sum) {
				t.Fatalf("Good(%x): %v", b, got)
			}
		}
	}
}

// P2.2: what stands ahead of a sum that holds.
func TestWhole(t *testing.T) {
	for _, row := range append(someRows(300), []byte{0xff, 0xff}, sumAll(t)) {
		sum := remainder(row)
		b := append(slices.Clone(row), byte(sum%256), byte(sum/256))
		if w, e := crc.Whole(b); !slices.Equal(w, row) || e != api.OK {
			t.Errorf("Whole(%x): %x, %d", b, w, e)
		}
	}
}

// P2.2: bytes that are not good are refused, and nothing is told beside it.
func TestWholeNotGood(t *testing.T) {
	for _, b := range [][]byte{
		nil,
		{},
		{0},
		{0xff},
		{0, 0},
		{0xff, 0},
		{0, 0xff},
		{0xb8, 0x80},
		[]byte{0xff, 0xff}[:1],
		{0xff, 0xff, 0xff, 0xff},
		{1, 4, 2, 255, 255},
		{1, 4, 2, 255, 255, 0xb8},
		{1, 4, 2, 255, 255, 0x80, 0xb8},
		{1, 4, 2, 255, 255, 0xb8, 0x81},
		{1, 4, 2, 255, 255, 0xb9, 0x80},
		{1, 4, 2, 255, 254, 0xb8, 0x80},
		{1, 4, 2, 255, 255, 0xb8, 0x80, 0x01},
	} {
		if w, e := crc.Whole(b); len(w) != 0 || e != api.ErrCrc {
			t.Errorf("Whole(%x): %x, %d", b, w, e)
		}
	}
}
