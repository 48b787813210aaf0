package utf_test

import (
	"slices"
	"strconv"
	"strings"
	"testing"
	"unicode/utf8"

	"bascule/api"
	"bascule/utf"
)

// modelBytes works the bytes of a point out of its digits in the base 2: six for each byte from the end on, what is left in the first.
func modelBytes(t *testing.T, point int) string {
	t.Helper()
	if point < 128 {
		return string([]byte{byte(point)})
	}
	size, ahead := 4, "11110"
	switch {
	case point < 2048:
		size, ahead = 2, "110"
	case point < 65536:
		size, ahead = 3, "1110"
	}
	digits := strconv.FormatInt(int64(point), 2)
	free := 8 - len(ahead)
	digits = strings.Repeat("0", free+6*(size-1)-len(digits)) + digits
	row := []byte{byteOf(t, ahead+digits[:free])}
	for rest := digits[free:]; rest != ""; rest = rest[6:] {
		row = append(row, byteOf(t, "10"+rest[:6]))
	}
	return string(row)
}

// byteOf answers the byte whose bits a text has.
func byteOf(t *testing.T, text string) byte {
	t.Helper()
	n, err := strconv.ParseUint(text, 2, 8)
	if err != nil {
		t.Fatal(err)
	}
	return byte(n)
}

// modelPoints says which points s has, by the library's own reading of it, and whether it is a string.
func modelPoints(s string) ([]int, bool) {
	if len(s) > 65535 || strings.Contains(s, "\x00") || !utf8.ValidString(s) {
		return nil, false
	}
	var points []int
	for _, r := range s {
		points = append(points, int(r))
	}
	return points, true
}

// holdString holds Is and Points against the model.
func holdString(t *testing.T, s string) {
	t.Helper()
	want, is := modelPoints(s)
	if utf.Is(s) != is {
		t.Fatalf("Is(%x): %t", s, !is)
	}
	points, e := utf.Points(s)
	if !slices.Equal(points, want) || (e == api.OK) != is || !is && e != api.ErrString {
		t.Fatalf("Points(%x): %v, %d, not %v", s, points, e, want)
	}
}

// eachRow calls do with every row of bytes of which the first, the second and so on come from the lists.
func eachRow(do func(s string), from ...[]byte) {
	row := make([]byte, len(from))
	var fill func(k int)
	fill = func(k int) {
		if k == len(from) {
			do(string(row))
			return
		}
		for _, c := range from[k] {
			row[k] = c
			fill(k + 1)
		}
	}
	fill(0)
}

// everyByte are all bytes.
func everyByte() []byte {
	all := make([]byte, 256)
	for k := range all {
		all[k] = byte(k)
	}
	return all
}

// edgeBytes are those at which a rule turns, and some between.
func edgeBytes() []byte {
	return []byte{0x00, 0x01, 0x41, 0x7f, 0x80, 0x8f, 0x90, 0x9f, 0xa0, 0xbf, 0xc0, 0xc1, 0xc2, 0xdf,
		0xe0, 0xe1, 0xec, 0xed, 0xee, 0xef, 0xf0, 0xf1, 0xf3, 0xf4, 0xf5, 0xf7, 0xf8, 0xff}
}

// P9.1: Is and Points of all rows of up to two bytes, of three whose last is at an edge, and of four at the edges.
func TestStringsByTheModel(t *testing.T) {
	every, edges := everyByte(), edgeBytes()
	hold := func(s string) { holdString(t, s) }
	eachRow(hold)
	eachRow(hold, every)
	eachRow(hold, every, every)
	eachRow(hold, every, every, edges)
	eachRow(hold, edges, edges, edges, edges)
}

// P9.1: Is and Points of five and six bytes: what is at an edge, ahead of a point and behind one.
func TestBesideByTheModel(t *testing.T) {
	edges := edgeBytes()
	for _, x := range knowns() {
		eachRow(func(s string) {
			holdString(t, s+x.s)
			holdString(t, x.s+s)
		}, edges, edges)
	}
}

// P9.1: Text, Is and Points of each point, by its digits in the base 2.
func TestEachPoint(t *testing.T) {
	points := 0
	for n := range 1114112 {
		if n == 0 || n >= 55296 && n <= 57343 {
			noText(t, []int{n})
			continue
		}
		points++
		isString(t, modelBytes(t, n), []int{n})
	}
	if points != 1112063 {
		t.Errorf("%d points", points)
	}
}

// P9.1: bytes made as those of a point are no string, if what they are made of is none.
func TestEachInTheGap(t *testing.T) {
	for n := 55296; n <= 57343; n++ {
		noString(t, modelBytes(t, n))
	}
	for n := 1114112; n < 2097152; n += 17 {
		noString(t, modelBytes(t, n))
	}
}
