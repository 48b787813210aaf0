package utf

// The numbers that are points: up to the last one, without those of the gap.
const (
	lastPoint = 1114111
	gapFirst  = 55296
	gapLast   = 57343
)

// The numbers from which on a point has one byte more.
const (
	twoFrom   = 128
	threeFrom = 2048
	fourFrom  = 65536
)

// What a byte has beside the digits of its point: the first one, by how many there are, and the rest.
const (
	restMark  = 128
	twoMark   = 192
	threeMark = 224
	fourMark  = 240
)

// restBase is the base of the digit that each byte behind the first one has.
const restBase = 64

// isPoint tells whether n is a point.
func isPoint(n int) bool {
	return n >= 1 && n <= lastPoint && (n < gapFirst || n > gapLast)
}

// sizeOf answers how many bytes a point has.
func sizeOf(point int) int {
	switch {
	case point < twoFrom:
		return 1
	case point < threeFrom:
		return 2
	case point < fourFrom:
		return 3
	}
	return 4
}

// first answers the highest digit of a point whose first byte is c, and how many bytes it has. A byte that goes on is none's first: it reads as 0, which is no point.
func first(c byte) (digit, size int) {
	switch {
	case c < restMark:
		return int(c), 1
	case c < twoMark:
		return 0, 1
	case c < threeMark:
		return int(c - twoMark), 2
	case c < fourMark:
		return int(c - threeMark), 3
	}
	return int(c - fourMark), 4
}

// goesOn tells whether c may stand behind the first byte of a point.
func goesOn(c byte) bool {
	return c >= restMark && c < twoMark
}

// put lays the bytes of a point behind b.
func put(b []byte, point int) []byte {
	switch sizeOf(point) {
	case 1:
		return append(b, byte(point))
	case 2:
		return append(b, byte(twoMark+point/restBase), rest(point))
	case 3:
		return append(b, byte(threeMark+point/(restBase*restBase)), rest(point/restBase), rest(point))
	}
	high := point / (restBase * restBase)
	return append(b, byte(fourMark+high/restBase), rest(high), rest(point/restBase), rest(point))
}

// rest answers the byte of the lowest digit of n.
func rest(n int) byte {
	return byte(restMark + n%restBase)
}
