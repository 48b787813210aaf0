package varint_test

import (
	"slices"
	"strconv"
	"testing"

	"bascule/api"
	"bascule/varint"
)

// bitsPut works the bytes of a length out of its number written in the base 2: pieces of seven bits from the end on, all but the last with a 1 ahead.
func bitsPut(t *testing.T, n int) []byte {
	t.Helper()
	text := strconv.FormatInt(int64(n), 2)
	var out []byte
	for len(text) > 7 {
		cut := len(text) - 7
		out = append(out, byteOf(t, "1"+text[cut:]))
		text = text[:cut]
	}
	return append(out, byteOf(t, text))
}

// byteOf answers the byte whose bits a text has.
func byteOf(t *testing.T, text string) byte {
	t.Helper()
	n, err := strconv.ParseUint(text, 2, 8)
	if err != nil {
		t.Fatal(err)
	}
	return byte(n)
}

// modelAt says what At is to answer at a place of 0 or more, rule by rule.
func modelAt(b []byte, i int) (int, int, api.Errno) {
	if i > len(b) {
		i = len(b)
	}
	rest := b[i:]
	last := slices.IndexFunc(rest, func(c byte) bool { return c < 128 })
	switch {
	case last > 3 || last < 0 && len(rest) >= 4:
		return 0, 0, api.ErrForm
	case last < 0:
		return 0, 0, api.ErrMore
	case last > 0 && rest[last] == 0:
		return 0, 0, api.ErrForm
	}
	n := 0
	for k := last; k >= 0; k-- {
		n = n*128 + int(rest[k]&127)
	}
	return n, i + last + 1, api.OK
}

// holdAt holds At against the model.
func holdAt(t *testing.T, b []byte, i int) {
	t.Helper()
	n, next, e := varint.At(b, i)
	if wantN, wantNext, wantE := modelAt(b, i); n != wantN || next != wantNext || e != wantE {
		t.Fatalf("At(%x, %d): %d, %d, %d, not %d, %d, %d", b, i, n, next, e, wantN, wantNext, wantE)
	}
}

// eachRow calls do with every row of the given length out of some bytes. The row is turned from call to call.
func eachRow(some []byte, length int, do func(row []byte)) {
	row := make([]byte, length)
	var fill func(k int)
	fill = func(k int) {
		if k == length {
			do(row)
			return
		}
		for _, c := range some {
			row[k] = c
			fill(k + 1)
		}
	}
	fill(0)
}

// everyByte are all bytes.
func everyByte() []byte {
	all := make([]byte, 256)
	for k := range all {
		all[k] = byte(k)
	}
	return all
}

// edgeBytes are those at which a rule turns, and some between.
func edgeBytes() []byte {
	return []byte{0, 1, 64, 127, 128, 129, 255}
}

// P8.2: At, at every place of all rows of up to two bytes, and of up to six at the edges.
func TestAtByTheModel(t *testing.T) {
	everyPlace := func(row []byte) {
		for i := range len(row) + 2 {
			holdAt(t, row, i)
		}
	}
	for length := range 3 {
		eachRow(everyByte(), length, everyPlace)
	}
	for length := range 7 {
		eachRow(edgeBytes(), length, everyPlace)
	}
}

// someLengths are rising lengths: all small ones, all those around powers of 2, and some between.
func someLengths() []int {
	var some []int
	for n := range 1 << 15 {
		some = append(some, n)
	}
	for power := 1 << 15; power <= 1<<28; power <<= 1 {
		for n := power - 20; n <= power+20; n++ {
			some = append(some, n)
		}
	}
	for n := 1 << 15; n <= api.MaxRemain; n += 997 {
		some = append(some, n)
	}
	some = slices.DeleteFunc(some, func(n int) bool { return n > api.MaxRemain })
	slices.Sort(some)
	return slices.Compact(some)
}

// P8.1: Put and Size of many lengths, held against what their bits say.
func TestPutByTheModel(t *testing.T) {
	for _, n := range someLengths() {
		want := bitsPut(t, n)
		if b, e := varint.Put(n); !slices.Equal(b, want) || e != api.OK {
			t.Fatalf("Put(%d): %x, %d, not %x", n, b, e, want)
		}
		if k, e := varint.Size(n); k != len(want) || e != api.OK {
			t.Fatalf("Size(%d): %d, %d, not %d", n, k, e, len(want))
		}
	}
}
