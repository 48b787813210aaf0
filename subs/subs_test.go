package subs_test

import (
	"math"
	"slices"
	"strings"
	"testing"

	"bascule/api"
	"bascule/subs"
)

// none are texts that are no filters.
var none = []string{"", "a#", "#/a", "a+", "+a", "a/#/", "a/#/b", "a\x00", "\xff", "\xc0\x80", strings.Repeat("a", 65536)}

// noNames are texts that are no names.
var noNames = []string{"", "#", "+", "a/+", "a/#", "a#", "a\x00", "\xff", strings.Repeat("a", 65536)}

// badQos are numbers that are no qualities.
var badQos = []int{-1, 3, math.MinInt, math.MaxInt, -2, 4, 256, 1 << 32}

// add holds what Add answers.
func add(t *testing.T, x *subs.Index, client, filter string, qos int, had bool) {
	t.Helper()
	if h, e := x.Add(client, api.Sub{Filter: filter, Qos: qos}); h != had || e != api.OK {
		t.Fatalf("Add(%q, %q with %d): %v, %d, not %v", client, filter, qos, h, e, had)
	}
}

// drop holds what Drop answers.
func drop(t *testing.T, x *subs.Index, client, filter string, had bool) {
	t.Helper()
	if h, e := x.Drop(client, filter); h != had || e != api.OK {
		t.Fatalf("Drop(%q, %q): %v, %d, not %v", client, filter, h, e, had)
	}
}

// gone holds what Gone answers.
func gone(t *testing.T, x *subs.Index, client string, had int) {
	t.Helper()
	if n, e := x.Gone(client); n != had || e != api.OK {
		t.Fatalf("Gone(%q): %d, %d, not %d", client, n, e, had)
	}
}

// find holds what Find answers.
func find(t *testing.T, x *subs.Index, name string, wants ...api.Want) {
	t.Helper()
	if found, e := x.Find(name); !slices.Equal(found, wants) || e != api.OK {
		t.Fatalf("Find(%q): %v, %d, not %v", name, found, e, wants)
	}
}

// of holds what Of answers.
func of(t *testing.T, x *subs.Index, client string, has ...api.Sub) {
	t.Helper()
	if l, e := x.Of(client); !slices.Equal(l, has) || e != api.OK {
		t.Fatalf("Of(%q): %v, %d, not %v", client, l, e, has)
	}
}

// with answers a filter with its quality.
func with(filter string, qos int) api.Sub { return api.Sub{Filter: filter, Qos: qos} }

// gets answers a client with a quality.
func gets(client string, qos int) api.Want { return api.Want{Client: client, Qos: qos} }

// P13.1, P13.2: the chapter's examples.
func TestExamples(t *testing.T) {
	x := subs.New()
	add(t, x, "b", "a/#", 1, false)
	add(t, x, "b", "a/+", 2, false)
	add(t, x, "a", "#", 0, false)
	find(t, x, "a/x", gets("a", 0), gets("b", 2))
	drop(t, x, "b", "a/+", true)
	drop(t, x, "b", "a/+", false)
	find(t, x, "a/x", gets("a", 0), gets("b", 1))
}

// P13.1: a new index, in which nobody wants anything; and two of them have nothing to do with each other.
func TestNew(t *testing.T) {
	x, other := subs.New(), subs.New()
	for range 2 {
		find(t, x, "a")
		of(t, x, "")
		of(t, x, "a")
		drop(t, x, "a", "#", false)
		gone(t, x, "a", 0)
		add(t, other, "a", "#", 1, false)
		gone(t, other, "a", 1)
		add(t, other, "a", "#", 2, false)
		gone(t, other, "a", 1)
	}
}

// P13.1: what is no filter, with any quality, is ErrFilter, and what is no quality ErrArg; nothing is changed by either.
func TestAddRefuses(t *testing.T) {
	x := subs.New()
	add(t, x, "a", "a", 1, false)
	hold := func(s api.Sub, want api.Errno) {
		t.Helper()
		for _, client := range []string{"a", "b", ""} {
			if had, e := x.Add(client, s); had || e != want {
				t.Fatalf("Add(%q, %.20q with %d): %v, %d, not %d", client, s.Filter, s.Qos, had, e, want)
			}
		}
		find(t, x, "a", gets("a", 1))
		of(t, x, "a", with("a", 1))
		of(t, x, "b")
		of(t, x, "")
	}
	for _, filter := range none {
		for _, qos := range append([]int{0, 1, 2}, badQos...) {
			hold(with(filter, qos), api.ErrFilter)
		}
	}
	for _, qos := range badQos {
		for _, filter := range []string{"a", "b", "#", "+", "/", "a/+/#", strings.Repeat("a", 65535)} {
			hold(with(filter, qos), api.ErrArg)
		}
	}
}

// P13.1: every filter and every quality that may be, for clients of any bytes.
func TestAddTakes(t *testing.T) {
	x := subs.New()
	clients := []string{"", "a", "\x00", "\xff", "#", strings.Repeat("c", 70000)}
	filters := []string{"a", "/", "#", "+", "+/#", "$SYS/#", "ä/+/€", strings.Repeat("a", 65535), strings.Repeat("/", 65534) + "#"}
	for _, client := range clients {
		var has []api.Sub
		for k, filter := range filters {
			add(t, x, client, filter, k%3, false)
			has = append(has, with(filter, k%3))
			of(t, x, client, has...)
		}
	}
	for _, client := range clients {
		gone(t, x, client, len(filters))
	}
}

// P13.1, P13.2: a filter that is added again stands at the same place, and has the quality that it was added with last.
func TestAddAgain(t *testing.T) {
	for first := range 3 {
		for again := range 3 {
			x := subs.New()
			add(t, x, "c", "z", 1, false)
			add(t, x, "c", "m", first, false)
			add(t, x, "c", "a", 1, false)
			add(t, x, "c", "m", again, true)
			of(t, x, "c", with("z", 1), with("m", again), with("a", 1))
			find(t, x, "m", gets("c", again))
			add(t, x, "c", "z", again, true)
			of(t, x, "c", with("z", again), with("m", again), with("a", 1))
			add(t, x, "c", "b", 0, false)
			of(t, x, "c", with("z", again), with("m", again), with("a", 1), with("b", 0))
			gone(t, x, "c", 4)
		}
	}
}

// P13.1: filters that take the same are not the same.
func TestLikeFiltersAreApart(t *testing.T) {
	x := subs.New()
	filters := []string{"#", "+/#", "/#", "+", "/+", "+/+", "a", "a/", "a/#", "A"}
	var has []api.Sub
	for k, filter := range filters {
		add(t, x, "c", filter, k%3, false)
		has = append(has, with(filter, k%3))
	}
	of(t, x, "c", has...)
	for len(has) > 0 {
		drop(t, x, "c", has[0].Filter, true)
		has = has[1:]
		of(t, x, "c", has...)
	}
}

// P13.1: what is dropped is wanted no more; what is not there is dropped without a turn.
func TestDrop(t *testing.T) {
	x := subs.New()
	add(t, x, "c", "a", 2, false)
	add(t, x, "c", "+", 1, false)
	add(t, x, "c", "b", 0, false)
	drop(t, x, "c", "#", false)  // it never was, though it takes the same
	drop(t, x, "d", "+", false)  // another client's
	drop(t, x, "", "a", false)   // likewise
	drop(t, x, "c", "a/", false) // another filter
	of(t, x, "c", with("a", 2), with("+", 1), with("b", 0))
	drop(t, x, "c", "+", true)
	drop(t, x, "c", "+", false)
	of(t, x, "c", with("a", 2), with("b", 0))
	find(t, x, "a", gets("c", 2))
	find(t, x, "x")
	drop(t, x, "c", "a", true)
	drop(t, x, "c", "b", true)
	of(t, x, "c")
	find(t, x, "a")
	for _, filter := range []string{"a", "+", "b"} {
		drop(t, x, "c", filter, false)
	}
	gone(t, x, "c", 0)
}

// P13.1: what is no filter can't be dropped, and drops nothing.
func TestDropRefuses(t *testing.T) {
	x := subs.New()
	add(t, x, "c", "a", 2, false)
	for _, filter := range none {
		for _, client := range []string{"c", "d", ""} {
			if had, e := x.Drop(client, filter); had || e != api.ErrFilter {
				t.Fatalf("Drop(%q, %.20q): %v, %d", client, filter, had, e)
			}
		}
		of(t, x, "c", with("a", 2))
	}
}

// P13.1, P13.2: a filter that was dropped and is added again is a new one: it stands behind the others.
func TestDropAndAdd(t *testing.T) {
	x := subs.New()
	add(t, x, "c", "a", 0, false)
	add(t, x, "c", "b", 1, false)
	add(t, x, "c", "d", 2, false)
	drop(t, x, "c", "a", true)
	of(t, x, "c", with("b", 1), with("d", 2))
	add(t, x, "c", "a", 1, false)
	of(t, x, "c", with("b", 1), with("d", 2), with("a", 1))
	drop(t, x, "c", "d", true)
	add(t, x, "c", "e", 0, false)
	add(t, x, "c", "d", 0, false)
	of(t, x, "c", with("b", 1), with("a", 1), with("e", 0), with("d", 0))
	find(t, x, "d", gets("c", 0))
}

// P13.1: one that is gone wants nothing any more, and may come back as a new one.
func TestGone(t *testing.T) {
	x := subs.New()
	gone(t, x, "c", 0)
	add(t, x, "c", "b", 1, false)
	gone(t, x, "c", 1)
	gone(t, x, "c", 0)
	for k, filter := range []string{"b", "a", "#", "+/+", "a/#"} {
		add(t, x, "c", filter, k%3, false)
	}
	add(t, x, "c", "a", 0, true)
	drop(t, x, "c", "+/+", true)
	add(t, x, "d", "a", 1, false)
	gone(t, x, "c", 4)
	of(t, x, "c")
	find(t, x, "a", gets("d", 1))
	find(t, x, "b")
	drop(t, x, "c", "a", false)
	gone(t, x, "c", 0)
	of(t, x, "d", with("a", 1))
	add(t, x, "c", "a", 2, false)
	add(t, x, "c", "b", 0, false)
	of(t, x, "c", with("a", 2), with("b", 0))
	find(t, x, "a", gets("c", 2), gets("d", 1))
	gone(t, x, "c", 2)
}

// P13.1, P13.2: an Index that is nil answers ErrNil, and nothing beside it, whatever it is handed.
func TestNil(t *testing.T) {
	var x *subs.Index
	for _, client := range []string{"", "a", "\xff"} {
		for _, filter := range append([]string{"a", "#", "a/+"}, none...) {
			for _, qos := range append([]int{0, 1, 2}, badQos...) {
				if had, e := x.Add(client, with(filter, qos)); had || e != api.ErrNil {
					t.Fatalf("Add(%q, %.20q with %d): %v, %d", client, filter, qos, had, e)
				}
			}
			if had, e := x.Drop(client, filter); had || e != api.ErrNil {
				t.Fatalf("Drop(%q, %.20q): %v, %d", client, filter, had, e)
			}
		}
		if n, e := x.Gone(client); n != 0 || e != api.ErrNil {
			t.Fatalf("Gone(%q): %d, %d", client, n, e)
		}
		if l, e := x.Of(client); len(l) > 0 || e != api.ErrNil {
			t.Fatalf("Of(%q): %v, %d", client, l, e)
		}
	}
	for _, name := range append([]string{"a", "$a", "/"}, noNames...) {
		if l, e := x.Find(name); len(l) > 0 || e != api.ErrNil {
			t.Fatalf("Find(%.20q): %v, %d", name, l, e)
		}
	}
}
