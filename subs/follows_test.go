package subs_test

import (
	"math/rand"
	"slices"
	"testing"

	"bascule/api"
	"bascule/subs"
)

// orders gives every order of a list; the list that it gives is its own.
func orders[T any](l []T, give func([]T)) {
	var from func(k int)
	from = func(k int) {
		if k == len(l) {
			give(l)
			return
		}
		for j := k; j < len(l); j++ {
			l[k], l[j] = l[j], l[k]
			from(k + 1)
			l[k], l[j] = l[j], l[k]
		}
	}
	from(0)
}

// merges gives every list of the elements of two lists in which those of each keep their order.
func merges[T any](a, b, ahead []T, give func([]T)) {
	if len(a) == 0 || len(b) == 0 {
		give(slices.Concat(ahead, a, b))
		return
	}
	merges(a[1:], b, append(slices.Clone(ahead), a[0]), give)
	merges(a, b[1:], append(slices.Clone(ahead), b[0]), give)
}

// P13.3: the same is found, in whatever order clients and filters are added.
func TestOrders(t *testing.T) {
	adds := []record{{"b", with("a/#", 1)}, {"b", with("a/+", 2)}, {"a", with("#", 0)}, {"", with("+/b", 2)}, {"a", with("a/b", 1)}, {"ab", with("$/a", 1)}}
	found := map[string][]api.Want{
		"a":   {gets("a", 0), gets("b", 1)},
		"a/b": {gets("", 2), gets("a", 1), gets("b", 2)},
		"a/c": {gets("a", 0), gets("b", 2)},
		"b":   {gets("a", 0)},
		"b/b": {gets("", 2), gets("a", 0)},
		"$/a": {gets("ab", 1)},
		"$/b": nil,
	}
	orders(slices.Clone(adds), func(order []record) {
		x := subs.New()
		has := map[string][]api.Sub{}
		for _, r := range order {
			add(t, x, r.client, r.sub.Filter, r.sub.Qos, false)
			has[r.client] = append(has[r.client], r.sub)
		}
		for name, wants := range found {
			find(t, x, name, wants...)
		}
		for client, l := range has {
			of(t, x, client, l...)
		}
	})
}

// P13.3: the same is found of two filters' and clients' turns on the way, too, if the same is wanted in the end.
func TestWaysToTheSame(t *testing.T) {
	ways := [][]call{
		{{doAdd, "a", with("x", 1)}, {doAdd, "b", with("#", 2)}},
		{{doAdd, "b", with("#", 2)}, {doAdd, "a", with("x", 2)}, {doAdd, "a", with("x", 1)}},
		{{doAdd, "a", with("#", 2)}, {doAdd, "b", with("#", 2)}, {doGone, "a", api.Sub{}}, {doAdd, "a", with("x", 1)}},
		{{doAdd, "b", with("x", 0)}, {doAdd, "b", with("#", 2)}, {doDrop, "b", with("x", 0)}, {doAdd, "a", with("x", 1)}},
		{{doAdd, "a", with("x", 1)}, {doAdd, "b", with("#", 2)}, {doDrop, "a", with("x", 0)}, {doAdd, "a", with("x", 1)}},
	}
	for _, way := range ways {
		x := subs.New()
		for _, c := range way {
			c.on(x)
		}
		find(t, x, "x", gets("a", 1), gets("b", 2))
		find(t, x, "y", gets("b", 2))
		of(t, x, "a", with("x", 1))
		of(t, x, "b", with("#", 2))
	}
}

// by answers the same calls, of another client.
func by(client string, script []call) []call {
	script = slices.Clone(script)
	for k := range script {
		script[k].client = client
	}
	return script
}

// seen is what the calls of a client answered, and what there is of it behind each.
type seen struct {
	told told
	has  []api.Sub
	gets []int // its quality by name, -1: it doesn't get it
}

// same says whether the same was seen.
func same(a, b seen) bool {
	return a.told == b.told && slices.Equal(a.has, b.has) && slices.Equal(a.gets, b.gets)
}

// look answers what there is of a client.
func look(t *testing.T, x *subs.Index, client string, names []string) seen {
	t.Helper()
	has, e := x.Of(client)
	if e != api.OK {
		t.Fatalf("Of(%q): %d", client, e)
	}
	s := seen{has: has}
	for _, name := range names {
		found, e := x.Find(name)
		if e != api.OK {
			t.Fatalf("Find(%q): %d", name, e)
		}
		qos := -1
		if k := slices.IndexFunc(found, func(w api.Want) bool { return w.Client == client }); k >= 0 {
			qos = found[k].Qos
		}
		s.gets = append(s.gets, qos)
	}
	return s
}

// run does a script, and answers what was seen of a client behind each of its own calls; it holds that no other one's call turns what there is of it.
func run(t *testing.T, script []call, client string, names []string) []seen {
	t.Helper()
	x := subs.New()
	var all []seen
	last := look(t, x, client, names)
	for _, c := range script {
		told := c.on(x)
		now := look(t, x, client, names)
		if c.client != client {
			if !same(now, last) {
				t.Fatalf("%v of %v turns %q: %v, not %v", c, script, client, now, last)
			}
			continue
		}
		last = now
		now.told = told
		all = append(all, now)
	}
	return all
}

// holdApart holds that what is seen of a client is what is seen where it is alone.
func holdApart(t *testing.T, script []call, client string, names []string) {
	t.Helper()
	alone := slices.DeleteFunc(slices.Clone(script), func(c call) bool { return c.client != client })
	if got, want := run(t, script, client, names), run(t, alone, client, names); !slices.EqualFunc(got, want, same) {
		t.Fatalf("%v: of %q %v, not %v", script, client, got, want)
	}
}

// P13.3: two clients that do the same with the same filters, in every way side by side: each has just what it had alone.
func TestTwoSideBySide(t *testing.T) {
	names := []string{"x", "y", "x/y"}
	scripts := [][]call{
		{{doAdd, "", with("x", 1)}, {doAdd, "", with("#", 2)}, {doDrop, "", with("x", 0)}, {doGone, "", api.Sub{}}, {doAdd, "", with("x", 0)}},
		{{doAdd, "", with("#", 0)}, {doAdd, "", with("+", 1)}, {doAdd, "", with("#", 2)}, {doDrop, "", with("#", 0)}, {doDrop, "", with("#", 0)}},
		{{doGone, "", api.Sub{}}, {doAdd, "", with("x", 2)}, {doAdd, "", with("x", 0)}, {doDrop, "", with("a#", 0)}, {doAdd, "", with("+", 3)}},
	}
	for _, one := range scripts {
		for _, other := range scripts {
			for _, pair := range [][2]string{{"a", "b"}, {"", "a"}, {"a", "a/"}, {"x", "#"}} {
				merges(by(pair[0], one), by(pair[1], other), nil, func(script []call) {
					holdApart(t, script, pair[0], names)
					holdApart(t, script, pair[1], names)
				})
			}
		}
	}
}

// P13.3: several clients with the same filters, at random. Their texts and the filters, laid together, are often the same.
func TestSeveralSideBySide(t *testing.T) {
	random := rand.New(rand.NewSource(131))
	clients := []string{"", "a", "a/", "a/b", "/", "b"}
	names := []string{"a", "a/b", "/b", "b", "b/a/b"}
	all := calls(clients, []string{"b", "/b", "a/b", "/a/b", "+", "#", "a#"}, []int{0, 1, 2, 3})
	for range 300 {
		var script []call
		for range 60 {
			script = append(script, all[random.Intn(len(all))])
		}
		for _, client := range clients {
			holdApart(t, script, client, names)
		}
	}
}

// P13.3: one that is gone takes nothing of what others have, whatever stands ahead of and behind its filters.
func TestGoneTurnsNoOther(t *testing.T) {
	clients := []string{"", "a", "aa", "b"}
	for _, leaves := range clients {
		x := subs.New()
		for k, filter := range []string{"#", "x", "+"} {
			for _, client := range clients {
				add(t, x, client, filter, k%3, false)
			}
		}
		gone(t, x, leaves, 3)
		var wants []api.Want
		for _, client := range clients {
			if client == leaves {
				of(t, x, client)
				continue
			}
			of(t, x, client, with("#", 0), with("x", 1), with("+", 2))
			wants = append(wants, gets(client, 2))
		}
		find(t, x, "x", wants...)
	}
}
