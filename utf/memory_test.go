package utf_test

import (
	"math"
	"slices"
	"testing"

	"bascule/api"
	"bascule/utf"
)

// overwrite turns every number of a list, and of its room.
func overwrite(points []int) {
	points = points[:cap(points)]
	for k := range points {
		points[k] = ^points[k]
	}
}

// R2: Text writes neither into the list nor into its spare room, whatever it answers, and does not read that room.
func TestTextLeavesTheList(t *testing.T) {
	long := append(slices.Repeat([]int{128512}, 16384), 97, 97)
	for _, whole := range [][]int{
		{97, 228, 8364, 128512, 0, 0, 0, 0},
		{97, 0, 8364, 55296, math.MaxInt, math.MinInt, 7},
		long,
	} {
		before := slices.Clone(whole)
		for _, many := range []int{0, 1, 2, 3, 4, len(whole)} {
			utf.Text(whole[:many])
		}
		if !slices.Equal(whole, before) {
			t.Errorf("wrote into the list of %d", len(whole))
		}
	}
	if s, e := utf.Text([]int{97, 0, -1}[:1]); s != "a" || e != api.OK {
		t.Errorf("Text(97): %x, %d", s, e)
	}
}

// R2: a list that was handed in is not kept: turned, it turns no text that was told, and is told as what it is now.
func TestTheListIsNotKept(t *testing.T) {
	points := []int{97, 228}
	early := text(t, points)
	points[0], points[1] = 8364, 98
	late := text(t, points)
	if early != "a\xc3\xa4" || late != "\xe2\x82\xacb" {
		t.Errorf("%x, %x", early, late)
	}
}

// R2: points that were told are the caller's own: turned, they turn no other answer, made before or behind.
func TestPointsAreTheCallersOwn(t *testing.T) {
	for _, x := range knowns() {
		s := "a" + x.s + "b"
		want := []int{97, x.point, 98}
		early, turned := pointsOf(t, s), pointsOf(t, s)
		overwrite(turned)
		late := pointsOf(t, s)
		if !slices.Equal(early, want) || !slices.Equal(late, want) {
			t.Errorf("Points(%x): %v and %v", s, early, late)
		}
		isString(t, s, want)
	}
}

// R2: points that the caller adds behind those that were told turn no other answer.
func TestAddedBehind(t *testing.T) {
	one := append(pointsOf(t, "abc"), 1)
	two := append(pointsOf(t, "abc"), 2)
	if !slices.Equal(one, []int{97, 98, 99, 1}) || !slices.Equal(two, []int{97, 98, 99, 2}) {
		t.Errorf("%v, %v", one, two)
	}
}

// R2: what Points told is taken by Text without being turned.
func TestToldAndHandedIn(t *testing.T) {
	points := pointsOf(t, "a\xc3\xa4\xe2\x82\xac")
	before := slices.Clone(points[:cap(points)])
	text(t, points)
	if !slices.Equal(points[:cap(points)], before) {
		t.Errorf("wrote into the list: %v", points)
	}
}

// R2: the same call answers the same, whatever was called between, refused or not.
func TestSameCallSameAnswer(t *testing.T) {
	for range 2 {
		for _, x := range knowns() {
			utf.Is("\xff")
			utf.Points("a\xc3")
			utf.Text([]int{97, 0})
			isString(t, x.s, []int{x.point})
		}
	}
}
