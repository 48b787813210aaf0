package subs_test

import (
	"strings"
	"testing"

	"bascule/api"
	"bascule/subs"
)

// P13.2: what is no name is ErrTopic, with nothing beside it, though there are filters that would take it.
func TestFindRefuses(t *testing.T) {
	x := subs.New()
	for _, name := range noNames {
		if l, e := x.Find(name); len(l) > 0 || e != api.ErrTopic {
			t.Fatalf("Find(%.20q) where nobody wants anything: %v, %d", name, l, e)
		}
	}
	for _, filter := range []string{"#", "+", "+/#", "a", "a/+", "a/#"} {
		add(t, x, "c", filter, 1, false)
	}
	for _, name := range noNames {
		if l, e := x.Find(name); len(l) > 0 || e != api.ErrTopic {
			t.Fatalf("Find(%.20q): %v, %d", name, l, e)
		}
	}
}

// P13.2: only those that have a filter which takes the name.
func TestFindTakes(t *testing.T) {
	x := subs.New()
	for _, filter := range []string{"a", "a/b", "+/b", "a/+", "a/#", "+/+/c", "/+", "b/#"} {
		add(t, x, "by "+filter, filter, len(filter)%3, false)
	}
	for name, filters := range map[string][]string{
		"a":     {"a", "a/#"},
		"a/b":   {"+/b", "a/#", "a/+", "a/b"},
		"a/":    {"a/#", "a/+"},
		"/b":    {"+/b", "/+"},
		"a/b/c": {"+/+/c", "a/#"},
		"b":     {"b/#"},
		"c":     nil,
		"c/d":   nil,
		"A":     nil,
		"aa":    nil,
	} {
		var wants []api.Want
		for _, filter := range filters {
			wants = append(wants, gets("by "+filter, len(filter)%3))
		}
		find(t, x, name, wants...)
	}
}

// P13.2: a client stands there once, with the greatest quality of those of its filters that take the name, in whatever order they were added.
func TestFindGreatest(t *testing.T) {
	filters := []string{"a/b", "a/+", "#"}
	for first := range 3 {
		for second := range 3 {
			for third := range 3 {
				x := subs.New()
				qos := []int{first, second, third}
				for k, filter := range filters {
					add(t, x, "c", filter, qos[k], false)
				}
				add(t, x, "c", "b/#", 2, false)
				add(t, x, "c", "a", 2, false)
				find(t, x, "a/b", gets("c", max(first, second, third)))
				find(t, x, "a/c", gets("c", max(second, third)))
				find(t, x, "c", gets("c", third))
			}
		}
	}
}

// P13.2: the greatest quality is that of now: it falls with a filter that is dropped, or added again with a lower one.
func TestFindGreatestFalls(t *testing.T) {
	x := subs.New()
	add(t, x, "c", "a", 2, false)
	add(t, x, "c", "+", 1, false)
	add(t, x, "c", "#", 0, false)
	find(t, x, "a", gets("c", 2))
	add(t, x, "c", "a", 0, true)
	find(t, x, "a", gets("c", 1))
	drop(t, x, "c", "+", true)
	find(t, x, "a", gets("c", 0))
	drop(t, x, "c", "a", true)
	find(t, x, "a", gets("c", 0))
	add(t, x, "c", "#", 2, true)
	find(t, x, "a", gets("c", 2))
	drop(t, x, "c", "#", true)
	find(t, x, "a")
}

// P13.2: clients by rising texts, byte by byte: the empty one ahead, and one ahead of those that it begins.
func TestFindRises(t *testing.T) {
	rising := []string{"", "\x00", "#", "1", "10", "2", "A", "B", "a", "a\x00", "a/", "aa", "ab", "b", "ä", "€", "\xff", "\xff\xff"}
	var wants []api.Want
	for k, client := range rising {
		wants = append(wants, gets(client, k%3))
	}
	for start := range rising {
		x := subs.New()
		for k := range rising {
			at := (start + 5*k) % len(rising)
			add(t, x, rising[at], "a", at%3, false)
		}
		find(t, x, "a", wants...)
		find(t, x, "b")
	}
}

// P13.2: a name that begins with $ is taken by no wild first level.
func TestFindHidden(t *testing.T) {
	x := subs.New()
	for k, filter := range []string{"#", "+", "+/#", "+/a", "$", "$/#", "$/a", "$/+", "a/#"} {
		add(t, x, string(rune('a'+k)), filter, k%3, false)
	}
	find(t, x, "$", gets("e", 1), gets("f", 2))
	find(t, x, "$/a", gets("f", 2), gets("g", 0), gets("h", 1))
	find(t, x, "$a")
	find(t, x, "a/$", gets("a", 0), gets("c", 2), gets("i", 2))
	x = subs.New()
	add(t, x, "c", "#", 2, false)
	add(t, x, "c", "$/#", 1, false)
	find(t, x, "$/a", gets("c", 1))
}

// P13.2: the longest name, and filters that take it.
func TestFindLongest(t *testing.T) {
	x := subs.New()
	name := strings.Repeat("a/", 32767) + "b"
	add(t, x, "a", name, 1, false)
	add(t, x, "b", "a/#", 2, false)
	add(t, x, "c", strings.Repeat("+/", 32767)+"+", 0, false)
	add(t, x, "d", strings.Repeat("+/", 32767)+"c", 0, false)
	find(t, x, name, gets("a", 1), gets("b", 2), gets("c", 0))
}

// P13.1, P13.2: many clients with many filters, which come and go.
func TestMany(t *testing.T) {
	x := subs.New()
	const clients, filters = 3000, 10
	names := make([]string, 0, clients)
	for k := range clients {
		names = append(names, "c"+strings.Repeat("x", k%7)+string(rune('0'+k/7%10))+string(rune(256+k)))
	}
	for k := range filters {
		for _, client := range names {
			add(t, x, client, "f/"+string(rune('a'+k)), k%3, false)
		}
	}
	for _, client := range names {
		of(t, x, client, with("f/a", 0), with("f/b", 1), with("f/c", 2), with("f/d", 0), with("f/e", 1), with("f/f", 2), with("f/g", 0), with("f/h", 1), with("f/i", 2), with("f/j", 0))
	}
	if found, e := x.Find("f/c"); len(found) != clients || e != api.OK {
		t.Fatalf("Find: %d, %d", len(found), e)
	}
	for k, client := range names {
		if k%2 == 0 {
			gone(t, x, client, filters)
		}
	}
	if found, e := x.Find("f/b"); len(found) != clients/2 || e != api.OK {
		t.Fatalf("Find: %d, %d", len(found), e)
	}
	for k, client := range names {
		gone(t, x, client, k%2*filters)
	}
	find(t, x, "f/a")
}
