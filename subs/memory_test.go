package subs_test

import (
	"slices"
	"testing"

	"bascule/api"
	"bascule/subs"
)

// filled answers an index in which clients a, b and c want some filters, and its model.
func filled(t *testing.T) (*subs.Index, model) {
	t.Helper()
	x, m := subs.New(), model{}
	for _, client := range []string{"c", "a", "b"} {
		for k, filter := range []string{"x", "#", "y/+", "+", "y/#"} {
			add(t, x, client, filter, k%3, false)
			m.add(client, with(filter, k%3))
		}
	}
	return x, m
}

// scrawl turns all elements of a list, and those in its room.
func scrawl[T any](l []T, with T) {
	l = l[:cap(l)]
	for k := range l {
		l[k] = with
	}
}

// R2: what is answered is the caller's own: it may be written on, and the index has what it had.
func TestAnswersAreTheCallers(t *testing.T) {
	x, m := filled(t)
	clients, names := []string{"a", "b", "c", "z"}, []string{"x", "y", "y/z", "$"}
	for _, client := range clients {
		l, _ := x.Of(client)
		scrawl(l, with("z", 2))
		_ = append(l, with("z", 1))
		holdAll(t, x, m, clients, names)
	}
	for _, name := range names {
		l, _ := x.Find(name)
		scrawl(l, gets("z", 2))
		_ = append(l, gets("z", 1))
		holdAll(t, x, m, clients, names)
	}
}

// R2: what was answered stays as it was, whatever is done with the index, and with other answers.
func TestAnswersStay(t *testing.T) {
	x, m := filled(t)
	has, _ := x.Of("a")
	found, _ := x.Find("y/z")
	wantHas, wantFound := slices.Clone(has), slices.Clone(found)
	others, _ := x.Of("a")
	scrawl(others, with("z", 2))
	more, _ := x.Find("y/z")
	scrawl(more, gets("z", 2))
	for _, filter := range []string{"x", "#", "z", "y/#"} {
		add(t, x, "a", filter, 2, m.add("a", with(filter, 2)))
	}
	drop(t, x, "a", "x", true)
	gone(t, x, "b", 5)
	gone(t, x, "a", 5)
	add(t, x, "a", "z", 0, false)
	if !slices.Equal(has, wantHas) || !slices.Equal(found, wantFound) {
		t.Fatalf("%v, %v, not %v, %v", has, found, wantHas, wantFound)
	}
}

// R2: what is answered hangs on nothing but the calls: asked again, and of another index that was told the same, it is the same.
func TestAnswersAgain(t *testing.T) {
	for range 50 {
		x, m := filled(t)
		for range 3 {
			holdAll(t, x, m, []string{"a", "b", "c", "z"}, []string{"x", "y", "y/z", "$"})
		}
	}
}

// R2, P13.1: asking and refusing turns nothing: neither places nor what is found.
func TestAskingTurnsNothing(t *testing.T) {
	x, m := filled(t)
	for range 3 {
		x.Find("a")
		x.Find("#")
		x.Of("q")
		drop(t, x, "q", "x", false)
		gone(t, x, "q", 0)
		x.Drop("a", "a#")
		x.Add("q", with("x", 3))
		x.Add("a", with("x", -1))
		x.Add("a", with("", 0))
		holdAll(t, x, m, []string{"a", "b", "c", "q"}, []string{"x", "y", "y/z", "$"})
	}
}

// R2: two indices have nothing to do with each other, though the same clients come to them with the same filters.
func TestIndicesAreApart(t *testing.T) {
	x, m := filled(t)
	other, otherM := filled(t)
	clients, names := []string{"a", "b", "c"}, []string{"x", "y", "y/z"}
	gone(t, x, "a", m.gone("a"))
	holdAll(t, other, otherM, clients, names)
	add(t, other, "a", "x", 2, otherM.add("a", with("x", 2)))
	drop(t, other, "b", "#", otherM.drop("b", "#"))
	holdAll(t, x, m, clients, names)
	holdAll(t, other, otherM, clients, names)
	if l, e := x.Of("a"); len(l) > 0 || e != api.OK {
		t.Fatalf("%v, %d", l, e)
	}
}
