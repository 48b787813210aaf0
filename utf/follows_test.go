package utf_test

import (
	"math/rand"
	"slices"
	"strings"
	"testing"

	"bascule/api"
	"bascule/utf"
)

// text answers the text of points, which Text is to take.
func text(t *testing.T, points []int) string {
	t.Helper()
	s, e := utf.Text(points)
	if e != api.OK {
		t.Fatalf("Text of %d points: %d", len(points), e)
	}
	return s
}

// pointsOf answers the points of a string, which Points is to take.
func pointsOf(t *testing.T, s string) []int {
	t.Helper()
	points, e := utf.Points(s)
	if e != api.OK {
		t.Fatalf("Points of %d bytes: %d", len(s), e)
	}
	return points
}

// anyPoints answers points at random, as many as are asked for, of each size as often as of any other.
func anyPoints(random *rand.Rand, many int) []int {
	from := []int{1, 128, 2048, 57344, 65536}
	to := []int{127, 2047, 55295, 65535, 1114111}
	points := make([]int, many)
	for k := range points {
		size := random.Intn(len(from))
		points[k] = from[size] + random.Intn(to[size]-from[size]+1)
	}
	return points
}

// P9.2: each point as a text, and back.
func TestEachPointAndBack(t *testing.T) {
	for n := 1; n <= 1114111; n++ {
		if n == 55296 {
			n = 57344
		}
		if back := pointsOf(t, text(t, []int{n})); len(back) != 1 || back[0] != n {
			t.Fatalf("%d: back as %v", n, back)
		}
	}
}

// P9.2: points as a text, and back, many at a time.
func TestPointsAndBack(t *testing.T) {
	random := rand.New(rand.NewSource(91))
	for many := range 3000 {
		points := anyPoints(random, many)
		s := text(t, points)
		if !utf.Is(s) {
			t.Fatalf("Is(%.40x): false", s)
		}
		if back := pointsOf(t, s); !slices.Equal(back, points) {
			t.Fatalf("%d points: back as others", many)
		}
	}
}

// P9.2: what is told as a string of any bytes has points that have just these bytes.
func TestStringsAndBack(t *testing.T) {
	random := rand.New(rand.NewSource(92))
	told := 0
	for range 300000 {
		s := text(t, anyPoints(random, random.Intn(4)))
		row := []byte(s)
		if len(row) > 0 && random.Intn(2) == 0 {
			row[random.Intn(len(row))] ^= byte(1 << random.Intn(8))
		}
		s = string(row)
		points, e := utf.Points(s)
		if utf.Is(s) != (e == api.OK) {
			t.Fatalf("Is(%x): %t, but Points: %d", s, utf.Is(s), e)
		}
		if e != api.OK {
			continue
		}
		told++
		if back := text(t, points); back != s {
			t.Fatalf("%x: back as %x", s, back)
		}
	}
	if told < 150000 {
		t.Errorf("only %d strings", told)
	}
}

// P9.2: no two lists of points have one text.
func TestNoTwoForms(t *testing.T) {
	had := map[string]int{}
	for n := 1; n <= 1114111; n++ {
		if n == 55296 {
			n = 57344
		}
		s := text(t, []int{n})
		if had[s] != 0 {
			t.Fatalf("%d and %d: both %x", had[s], n, s)
		}
		had[s] = n
	}
}

// P9.2: strings that are joined, of every size ahead of every other one.
func TestJoined(t *testing.T) {
	for _, x := range knowns() {
		for _, y := range knowns() {
			isString(t, x.s+y.s, []int{x.point, y.point})
			isString(t, x.s+y.s+x.s, []int{x.point, y.point, x.point})
		}
		isString(t, x.s+"", []int{x.point})
		isString(t, ""+x.s, []int{x.point})
	}
	random := rand.New(rand.NewSource(93))
	for range 3000 {
		one, two := anyPoints(random, random.Intn(40)), anyPoints(random, random.Intn(40))
		isString(t, text(t, one)+text(t, two), slices.Concat(one, two))
	}
}

// P9.2: strings that together have 65535 bytes are one, and those that have one byte more are none.
func TestJoinedToTheLongest(t *testing.T) {
	random := rand.New(rand.NewSource(94))
	for range 60 {
		one := anyPoints(random, random.Intn(16000))
		s := text(t, one)
		room := 65535 - len(s)
		two, rest := anyPoints(random, room/4-1), ""
		rest = text(t, two)
		fill := room - len(rest)
		rest += strings.Repeat("a", fill)
		two = append(two, slices.Repeat([]int{97}, fill)...)
		isString(t, s+rest, slices.Concat(one, two))
		noString(t, s+rest+"a")
		noString(t, "a"+s+rest)
		noText(t, slices.Concat(one, two, []int{97}))
	}
}

// P9.2: a string that is cut between points is two, and within a point none.
func TestCut(t *testing.T) {
	random := rand.New(rand.NewSource(95))
	for range 200 {
		points := anyPoints(random, 20)
		s := text(t, points)
		between := map[int]int{0: 0}
		at := 0
		for k, n := range points {
			at += len(text(t, []int{n}))
			between[at] = k + 1
		}
		for cut := range len(s) + 1 {
			k, ok := between[cut]
			if !ok {
				noString(t, s[:cut])
				noString(t, s[cut:])
				continue
			}
			isString(t, s[:cut], points[:k])
			isString(t, s[cut:], points[k:])
		}
	}
}
