package varint_test

import (
	"math/rand"
	"slices"
	"testing"

	"bascule/api"
	"bascule/varint"
)

// put answers the bytes of a length, which Put is to take.
func put(t *testing.T, n int) []byte {
	t.Helper()
	b, e := varint.Put(n)
	if e != api.OK {
		t.Fatalf("Put(%d): %d", n, e)
	}
	return b
}

// P8.3: what is put is told as itself, from any place, whatever stands behind it, and whatever ahead.
func TestPutIsTold(t *testing.T) {
	beside := []byte{0x00, 0x01, 0x7f, 0x80, 0x81, 0xff}
	for turn, n := range someLengths() {
		b := put(t, n)
		// Each length meets another pair, so that every pair stands beside many lengths.
		ahead := slices.Repeat(beside[turn%6:turn%6+1], turn/6%6)
		behind := slices.Repeat(beside[turn/36%6:turn/36%6+1], turn/216%6)
		row := slices.Concat(ahead, b, behind)
		if told, next, e := varint.At(row, len(ahead)); told != n || next != len(ahead)+len(b) || e != api.OK {
			t.Fatalf("At(%x, %d): %d, %d, %d, not %d", row, len(ahead), told, next, e, n)
		}
	}
}

// P8.3: behind the bytes of a length any byte may stand.
func TestAnyByteBehind(t *testing.T) {
	for _, x := range knowns() {
		b := put(t, x.n)
		for c := range 256 {
			row := append(slices.Clone(b), byte(c))
			if told, next, e := varint.At(row, 0); told != x.n || next != len(b) || e != api.OK {
				t.Fatalf("At(%x, 0): %d, %d, %d, not %d", row, told, next, e, x.n)
			}
		}
	}
}

// P8.3: a piece of the bytes of a length, its last one not among them, is never told.
func TestNoPieceIsTold(t *testing.T) {
	for _, x := range knowns() {
		b := put(t, x.n)
		for many := range len(b) {
			refused(t, b[:many], 0, api.ErrMore)
		}
	}
}

// putAgain holds that what is told of a row, at a place, is put as the bytes that it was told from.
func putAgain(t *testing.T, row []byte, i int) {
	t.Helper()
	n, next, e := varint.At(row, i)
	if e != api.OK {
		return
	}
	if next <= i || next > len(row) {
		t.Fatalf("At(%x, %d): the place behind it is %d", row, i, next)
	}
	if b := put(t, n); !slices.Equal(b, row[i:next]) {
		t.Fatalf("At(%x, %d): %d, which is put as %x", row, i, n, b)
	}
	if k, e := varint.Size(n); k != next-i || e != api.OK {
		t.Fatalf("At(%x, %d): %d, whose size is %d, %d", row, i, n, k, e)
	}
}

// P8.3: what is told is put as the same bytes: all rows of up to two bytes, of up to six at the edges, and many at random.
func TestToldIsPut(t *testing.T) {
	everyPlace := func(row []byte) {
		for i := range row {
			putAgain(t, row, i)
		}
	}
	for length := range 3 {
		eachRow(everyByte(), length, everyPlace)
	}
	for length := range 7 {
		eachRow(edgeBytes(), length, everyPlace)
	}
	random := rand.New(rand.NewSource(8))
	row := make([]byte, 12)
	for range 50000 {
		for k := range row {
			row[k] = byte(random.Intn(256)) | byte(random.Intn(2)<<7)
		}
		everyPlace(row)
	}
}

// P8.3: lengths one behind the other are told one by one, and nothing is left.
func TestOneBehindTheOther(t *testing.T) {
	var row []byte
	for _, x := range knowns() {
		row = append(row, put(t, x.n)...)
	}
	at := 0
	for _, x := range knowns() {
		n, next, e := varint.At(row, at)
		if n != x.n || e != api.OK {
			t.Errorf("At %d: %d, %d, not %d", at, n, e, x.n)
		}
		at = next
	}
	if at != len(row) {
		t.Errorf("told %d of %d bytes", at, len(row))
	}
	refused(t, row, at, api.ErrMore)
}

// P8.3: a greater length has no fewer bytes; one byte more just where the chapter's edges are.
func TestGreaterHasNoFewer(t *testing.T) {
	size := 1
	grown := map[int]int{}
	for _, n := range someLengths() {
		k, e := varint.Size(n)
		if k < size || e != api.OK {
			t.Fatalf("Size(%d): %d, %d, and %d of a smaller one", n, k, e, size)
		}
		if k > size {
			grown[n] = k
		}
		size = k
		if b := put(t, n); len(b) != k {
			t.Fatalf("Put(%d): %x, Size %d", n, b, k)
		}
	}
	if len(grown) != 3 || grown[128] != 2 || grown[16384] != 3 || grown[2097152] != 4 {
		t.Errorf("more bytes from these on: %v", grown)
	}
}
