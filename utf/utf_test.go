package utf_test

import (
	"math"
	"slices"
	"strings"
	"testing"

	"bascule/api"
	"bascule/utf"
)

// known is a point, and its bytes.
type known struct {
	point int
	s     string
}

// knowns are the points at the edges, and some between, with their bytes worked out by hand.
func knowns() []known {
	return []known{
		{1, "\x01"},
		{2, "\x02"},
		{10, "\x0a"},
		{31, "\x1f"},
		{97, "\x61"},
		{126, "\x7e"},
		{127, "\x7f"},
		{128, "\xc2\x80"},
		{129, "\xc2\x81"},
		{191, "\xc2\xbf"},
		{192, "\xc3\x80"},
		{228, "\xc3\xa4"},
		{1984, "\xdf\x80"},
		{2047, "\xdf\xbf"},
		{2048, "\xe0\xa0\x80"},
		{2049, "\xe0\xa0\x81"},
		{4095, "\xe0\xbf\xbf"},
		{4096, "\xe1\x80\x80"},
		{8364, "\xe2\x82\xac"},
		{53247, "\xec\xbf\xbf"},
		{53248, "\xed\x80\x80"},
		{55295, "\xed\x9f\xbf"},
		{57344, "\xee\x80\x80"},
		{61439, "\xee\xbf\xbf"},
		{61440, "\xef\x80\x80"},
		{64976, "\xef\xb7\x90"},
		{65279, "\xef\xbb\xbf"},
		{65533, "\xef\xbf\xbd"},
		{65534, "\xef\xbf\xbe"},
		{65535, "\xef\xbf\xbf"},
		{65536, "\xf0\x90\x80\x80"},
		{65537, "\xf0\x90\x80\x81"},
		{128512, "\xf0\x9f\x98\x80"},
		{262143, "\xf0\xbf\xbf\xbf"},
		{262144, "\xf1\x80\x80\x80"},
		{1048575, "\xf3\xbf\xbf\xbf"},
		{1048576, "\xf4\x80\x80\x80"},
		{1114110, "\xf4\x8f\xbf\xbe"},
		{1114111, "\xf4\x8f\xbf\xbf"},
	}
}

// noPoints are numbers that are no points; the lower bytes of some are those of one.
func noPoints() []int {
	return []int{0, -1, -2, -97, -128, -65536, math.MinInt32, math.MinInt, math.MinInt + 1, math.MinInt + 97,
		55296, 55297, 56319, 56320, 57342, 57343,
		1114112, 1114113, 1114112 + 97, 2097151, 2097152, math.MaxInt32, 1 << 32, 1<<32 + 97, math.MaxInt - 1, math.MaxInt}
}

// noStrings are bytes that no string has within it, whatever stands behind them, by what is wrong.
func noStrings() map[string][]string {
	return map[string][]string{
		"the byte 00": {"\x00"},
		"none's first byte": {"\x80", "\x81", "\x9f", "\xa0", "\xbf", "\x80\x80", "\xc0", "\xc0\x81", "\xc1", "\xc1\xbf",
			"\xf5", "\xf5\x80\x80\x80", "\xf6\x80\x80\x80", "\xf7\xbf\xbf\xbf",
			"\xf8", "\xf8\x88\x80\x80\x80", "\xfb\xbf\xbf\xbf\xbf", "\xfc\x84\x80\x80\x80\x80", "\xfd\xbf\xbf\xbf\xbf\xbf", "\xfe", "\xfe\x80\x80\x80", "\xff", "\xff\xff\xff\xff"},
		"more bytes than it takes": {"\xc0\x80", "\xc1\x80", "\xc1\xa1", "\xc0\xbf", "\xc1\xbf",
			"\xe0\x80\x80", "\xe0\x80\x81", "\xe0\x81\xbf", "\xe0\x82\x80", "\xe0\x9f\xbf",
			"\xf0\x80\x80\x80", "\xf0\x80\x80\x81", "\xf0\x80\x81\xbf", "\xf0\x80\x9f\xbf", "\xf0\x80\xa0\x80", "\xf0\x8f\xbf\xbf"},
		"in the gap":            {"\xed\xa0\x80", "\xed\xa0\x81", "\xed\xaf\xbf", "\xed\xb0\x80", "\xed\xbf\xbe", "\xed\xbf\xbf", "\xed\xa0\x80\xed\xb0\x80", "\xed\xa0\xbd\xed\xb8\x80"},
		"behind the last point": {"\xf4\x90\x80\x80", "\xf4\x90\x80\x81", "\xf4\x9f\xbf\xbf", "\xf4\xa0\x80\x80", "\xf4\xbf\xbf\xbf"},
		"a byte that does not go on": {"\xc3\x7f", "\xc3\xc0", "\xc3\xff", "\xc3\xc3\xa4",
			"\xe2\x7f\xac", "\xe2\xc0\xac", "\xe2\x82\x7f", "\xe2\x82\xc0", "\xe2\x82\xff", "\xe2\x00\x80",
			"\xf0\x7f\x98\x80", "\xf0\xc0\x98\x80", "\xf0\xdf\x98\x80", "\xf0\x9f\x7f\x80", "\xf0\x9f\xc0\x80", "\xf0\x9f\x98\x7f", "\xf0\x9f\x98\xc0", "\xf0\x9f\x98\xff", "\xf0\x9f\x98\x00"},
	}
}

// isString holds that s is a string, of these points, that is their text.
func isString(t *testing.T, s string, points []int) {
	t.Helper()
	if !utf.Is(s) {
		t.Fatalf("Is(%.40x, %d bytes): false", s, len(s))
	}
	if told, e := utf.Points(s); !slices.Equal(told, points) || e != api.OK {
		t.Fatalf("Points(%.40x, %d bytes): %d points, %d, not %d", s, len(s), len(told), e, len(points))
	}
	if text, e := utf.Text(points); text != s || e != api.OK {
		t.Fatalf("Text of %d points: %.40x, %d bytes, %d, not %.40x", len(points), text, len(text), e, s)
	}
}

// noString holds that s is none, and that nothing is told beside the error.
func noString(t *testing.T, s string) {
	t.Helper()
	if utf.Is(s) {
		t.Fatalf("Is(%.40x, %d bytes): true", s, len(s))
	}
	if points, e := utf.Points(s); len(points) != 0 || e != api.ErrString {
		t.Fatalf("Points(%.40x, %d bytes): %d points, %d", s, len(s), len(points), e)
	}
}

// noText holds that points have none, and that nothing is told beside the error.
func noText(t *testing.T, points []int) {
	t.Helper()
	if s, e := utf.Text(points); s != "" || e != api.ErrArg {
		t.Fatalf("Text of %d points: %.40x, %d bytes, %d", len(points), s, len(s), e)
	}
}

// P9.1: the chapter's examples.
func TestExamples(t *testing.T) {
	isString(t, "\x61\xc3\xa4\xe2\x82\xac", []int{97, 228, 8364})
	isString(t, "\xf0\x9f\x98\x80", []int{128512})
	for _, s := range []string{"\xc0\x80", "\xed\xa0\x80", "\x00", "\xf4\x90\x80\x80", "\xc3"} {
		noString(t, s)
	}
}

// P9.1: ordinary strings, of points of one, two, three and four bytes in any order.
func TestOrdinary(t *testing.T) {
	isString(t, "a", []int{97})
	isString(t, "pump/3/set", []int{112, 117, 109, 112, 47, 51, 47, 115, 101, 116})
	isString(t, "\xf0\x9f\x98\x80\xe2\x82\xac\xc3\xa4a", []int{128512, 8364, 228, 97})
	isString(t, "\xe2\x82\xac\xf0\x9f\x98\x80\xc3\xa4\xe2\x82\xac", []int{8364, 128512, 228, 8364})
	isString(t, " \t\r\n\x7f\xef\xbb\xbf", []int{32, 9, 13, 10, 127, 65279})
}

// P9.1: the empty string has no points, and none have the empty string.
func TestEmpty(t *testing.T) {
	isString(t, "", nil)
	isString(t, "", []int{})
}

// P9.1: each point at an edge, alone, and beside others of every size.
func TestEdges(t *testing.T) {
	beside := []known{{97, "a"}, {228, "\xc3\xa4"}, {8364, "\xe2\x82\xac"}, {128512, "\xf0\x9f\x98\x80"}}
	for _, x := range knowns() {
		isString(t, x.s, []int{x.point})
		for _, ahead := range beside {
			for _, behind := range beside {
				isString(t, ahead.s+x.s+behind.s, []int{ahead.point, x.point, behind.point})
			}
		}
	}
}

// P9.1: a number that is no point has no text, alone or among points, wherever it stands.
func TestNoPoint(t *testing.T) {
	for _, n := range noPoints() {
		noText(t, []int{n})
		for k := range 5 {
			noText(t, slices.Insert([]int{97, 228, 8364, 128512}, k, n))
		}
		noText(t, append(slices.Repeat([]int{97}, 65534), n))
		noText(t, append([]int{n}, slices.Repeat([]int{97}, 65536)...))
		noText(t, append(slices.Repeat([]int{97}, 65536), n))
	}
}

// P9.1: bytes that no string has within it, alone, ahead of points, behind them, and between.
func TestNoString(t *testing.T) {
	beside := []string{"a", "\xc3\xa4", "\xe2\x82\xac", "\xf0\x9f\x98\x80", strings.Repeat("a", 1000)}
	for what, rows := range noStrings() {
		t.Run(what, func(t *testing.T) {
			for _, s := range rows {
				noString(t, s)
				for _, x := range beside {
					noString(t, x+s)
					noString(t, s+x)
					noString(t, x+s+x)
				}
			}
		})
	}
}

// P9.1: every byte that begins no point, alone, and with bytes behind it that go on.
func TestNoFirstByte(t *testing.T) {
	for c := range 256 {
		if c >= 0x01 && c < 0x80 || c >= 0xc2 && c < 0xf5 {
			continue
		}
		for many := range 7 {
			noString(t, string([]byte{byte(c)})+strings.Repeat("\x80", many))
			noString(t, string([]byte{byte(c)})+strings.Repeat("\xbf", many))
		}
	}
}

// P9.1: a point that lacks its last bytes, at the end and ahead of another one.
func TestCutPoint(t *testing.T) {
	for _, x := range knowns() {
		for many := 1; many < len(x.s); many++ {
			noString(t, x.s[:many])
			for _, y := range knowns() {
				noString(t, y.s+x.s[:many])
				noString(t, x.s[:many]+y.s)
			}
		}
	}
}

// P9.1: a byte that goes on behind a point that has all of its bytes is none's.
func TestOneByteMore(t *testing.T) {
	for _, x := range knowns() {
		for _, c := range []string{"\x80", "\x9f", "\xbf"} {
			noString(t, x.s+c)
			noString(t, x.s+c+"a")
			noString(t, x.s+c+x.s)
		}
	}
}

// P9.1: each byte of a point behind its first one, turned into every byte that does not go on.
func TestEachByteBehindTheFirst(t *testing.T) {
	for _, x := range knowns() {
		for at := 1; at < len(x.s); at++ {
			for c := range 256 {
				if c >= 0x80 && c < 0xc0 {
					continue
				}
				turned := []byte(x.s)
				turned[at] = byte(c)
				noString(t, string(turned))
			}
		}
	}
}

// P9.1: the longest strings, of points of each size, and those that are too long by one byte and more.
func TestLongest(t *testing.T) {
	for _, x := range []known{{97, "a"}, {127, "\x7f"}, {228, "\xc3\xa4"}, {2047, "\xdf\xbf"}, {8364, "\xe2\x82\xac"}, {65535, "\xef\xbf\xbf"}, {128512, "\xf0\x9f\x98\x80"}, {1114111, "\xf4\x8f\xbf\xbf"}} {
		many, left := 65535/len(x.s), 65535%len(x.s)
		s := strings.Repeat(x.s, many) + strings.Repeat("z", left)
		points := slices.Concat(slices.Repeat([]int{x.point}, many), slices.Repeat([]int{122}, left))
		isString(t, s, points)
		isString(t, s[len(x.s):], points[1:])
		for _, y := range knowns() {
			noString(t, s+y.s)
			noString(t, y.s+s)
			noText(t, append(slices.Clone(points), y.point))
			noText(t, append([]int{y.point}, points...))
		}
		noString(t, s+s)
		noText(t, slices.Concat(points, points))
	}
}

// P9.1: 65535 bytes and one more that a single point brings, of each size.
func TestLastPointIsOneByteTooMuch(t *testing.T) {
	for _, x := range knowns() {
		room := 65535 - len(x.s)
		ahead := strings.Repeat("a", room)
		points := slices.Repeat([]int{97}, room)
		isString(t, ahead+x.s, append(slices.Clone(points), x.point))
		noString(t, ahead+"a"+x.s)
		noText(t, append(slices.Clone(points), 97, x.point))
	}
}

// P9.1: the bytes that make a string none are found as the last ones, too, and as the first ones, of 65535.
func TestWrongAtTheEnds(t *testing.T) {
	for _, rows := range noStrings() {
		for _, s := range rows {
			fill := strings.Repeat("a", 65535-len(s))
			noString(t, fill+s)
			noString(t, s+fill)
		}
	}
}

// P9.1 and R1: far more bytes and points than a string has are refused as any others.
func TestFarTooMany(t *testing.T) {
	noString(t, strings.Repeat("a", 1<<24))
	noString(t, strings.Repeat("\x00", 1<<24))
	noText(t, slices.Repeat([]int{97}, 1<<22))
	noText(t, slices.Repeat([]int{1114111}, 1<<22))
	noText(t, make([]int, 1<<22))
}
