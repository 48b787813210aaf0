package crc_test

import (
	"slices"
	"testing"

	"bascule/api"
	"bascule/crc"
)

// P2.3: what was added to is good, has the sum 0, and is told without its sum as what it was.
func TestAddIsGood(t *testing.T) {
	rows := append(someRows(300), []byte{0xff, 0xff}, sumAll(t))
	for x := range 256 {
		rows = append(rows, []byte{byte(x)})
	}
	for _, row := range rows {
		b := crc.Add(row)
		if !crc.Good(b) || crc.Sum(b) != 0 {
			t.Errorf("Add(%x): %x, good %v, sum %04x", row, b, crc.Good(b), crc.Sum(b))
		}
		if w, e := crc.Whole(b); !slices.Equal(w, row) || e != api.OK {
			t.Errorf("Whole(%x): %x, %d", b, w, e)
		}
	}
}

// P2.3: of two bytes and more, those that are good are those of the sum 0.
func TestGoodHasSumNought(t *testing.T) {
	for x := range 256 {
		for y := range 256 {
			for _, ahead := range [][]byte{nil, {0x00}, {0x81}, {0xff, 0xff}} {
				b := append(slices.Clone(ahead), byte(x), byte(y))
				if crc.Good(b) != (crc.Sum(b) == 0) {
					t.Fatalf("Good(%x): %v, Sum %04x", b, crc.Good(b), crc.Sum(b))
				}
			}
		}
	}
}

// turn turns the bits of b of which those of pattern are 1, from the bit at on.
func turn(b []byte, at int, pattern uint32) {
	for k := range 32 {
		if pattern>>k&1 == 1 {
			b[(at+k)/8] ^= 1 << ((at + k) % 8)
		}
	}
}

// P2.3: one bit turned, whichever it is, is found.
func TestOneBitTurned(t *testing.T) {
	for _, row := range append(someRows(60), []byte{0xff, 0xff}, make([]byte, 256)) {
		b := crc.Add(row)
		for at := range 8 * len(b) {
			turn(b, at, 1)
			w, e := crc.Whole(b)
			if crc.Good(b) || len(w) != 0 || e != api.ErrCrc {
				t.Errorf("%x with the bit %d turned: good %v, %x, %d", row, at, crc.Good(b), w, e)
			}
			turn(b, at, 1)
		}
	}
}

// P2.3: all that can be turned within sixteen bits is found, wherever it begins.
func TestSixteenBitsTurned(t *testing.T) {
	for _, row := range [][]byte{nil, {0xff, 0xff}, {1, 4, 2, 255, 255}} {
		b := crc.Add(row)
		for at := range 8 * len(b) {
			room := min(16, 8*len(b)-at)
			for pattern := uint32(1); pattern < 1<<room; pattern += 2 {
				turn(b, at, pattern)
				if crc.Good(b) {
					t.Fatalf("%x with %b turned from the bit %d on is good", row, pattern, at)
				}
				turn(b, at, pattern)
			}
		}
	}
}

// P2.3, its edge: of what begins at one bit and ends at the sixteenth behind it, the one pattern by which sums are divided is not found, as P2.1 has it; all others are.
func TestSeventeenBitsTurned(t *testing.T) {
	const divisor = 1 | 1<<1 | 1<<14 | 1<<16
	b := crc.Add([]byte{1, 4, 2, 255, 255})
	for at := range 8*len(b) - 16 {
		for pattern := uint32(1<<16 | 1); pattern < 1<<17; pattern += 2 {
			turn(b, at, pattern)
			if crc.Good(b) != (pattern == divisor) {
				t.Fatalf("%b turned from the bit %d on: good %v", pattern, at, crc.Good(b))
			}
			turn(b, at, pattern)
		}
	}
}

// unlike answers the bytes in which the three rows are unlike.
func unlike(a, b, c []byte) []byte {
	d := make([]byte, len(a))
	for k := range d {
		d[k] = a[k] ^ b[k] ^ c[k]
	}
	return d
}

// P2.4: four rows, each of which is what the others are unlike in, have sums that are so, too.
func TestSumsOfFourRows(t *testing.T) {
	rows := someRows(400)
	for size := range 130 {
		a, b, c := rows[size], rows[size+130][:size], rows[size+260][:size]
		d := unlike(a, b, c)
		sums := []int{crc.Sum(a), crc.Sum(b), crc.Sum(c), crc.Sum(d)}
		for k := range sums {
			if others := sums[(k+1)%4] ^ sums[(k+2)%4] ^ sums[(k+3)%4]; sums[k] != others {
				t.Errorf("rows of %d bytes: %04x, the row %d not %04x", size, sums, k, others)
			}
		}
	}
}

// P2.4: all four rows alike, two and two alike, and rows of one byte each.
func TestSumsOfFourRowsEdges(t *testing.T) {
	nought, full := make([]byte, 9), slices.Repeat([]byte{0xff}, 9)
	for _, x := range [][3][]byte{{nil, nil, nil}, {nought, nought, nought}, {full, full, nought}, {full, full, full}, {nought, full, nought}} {
		d := unlike(x[0], x[1], x[2])
		if n := crc.Sum(x[0]) ^ crc.Sum(x[1]) ^ crc.Sum(x[2]); n != crc.Sum(d) {
			t.Errorf("%x: %04x, not %04x", x, crc.Sum(d), n)
		}
	}
	for a := range 256 {
		for b := range 256 {
			for _, c := range []byte{0x00, 0x01, 0x80, 0xff} {
				d := byte(a) ^ byte(b) ^ c
				if crc.Sum([]byte{byte(a)})^crc.Sum([]byte{byte(b)})^crc.Sum([]byte{c}) != crc.Sum([]byte{d}) {
					t.Fatalf("the bytes %02x, %02x, %02x, %02x", a, b, c, d)
				}
			}
		}
	}
}
