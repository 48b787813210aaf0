package subs_test

import (
	"math/rand"
	"slices"
	"sort"
	"strings"
	"testing"

	"bascule/api"
	"bascule/subs"
)

// record is a filter that a client wants.
type record struct {
	client string
	sub    api.Sub
}

// model is what an index has to be: all that is wanted, in the order in which it was added, gone through from the beginning at each call.
type model []record

// takes says whether the levels of a filter take those of a name: one by one, and what begins with $ by no wild one.
func takes(filter, name []string) bool {
	switch {
	case len(filter) == 0:
		return len(name) == 0
	case filter[0] == "#":
		return true
	case len(name) == 0:
		return false
	}
	return (filter[0] == "+" || filter[0] == name[0]) && takes(filter[1:], name[1:])
}

// wild says whether a filter takes names by any first level.
func wild(filter string) bool { return filter[0] == '+' || filter[0] == '#' }

// modelTakes says whether a filter takes a name.
func modelTakes(filter, name string) bool {
	if name[0] == '$' && wild(filter) {
		return false
	}
	return takes(strings.Split(filter, "/"), strings.Split(name, "/"))
}

// at answers where a client's filter stands, or -1.
func (m model) at(client, filter string) int {
	return slices.IndexFunc(m, func(r record) bool { return r.client == client && r.sub.Filter == filter })
}

// add answers what Add has to.
func (m *model) add(client string, s api.Sub) bool {
	k := m.at(client, s.Filter)
	if k < 0 {
		*m = append(*m, record{client, s})
		return false
	}
	(*m)[k].sub.Qos = s.Qos
	return true
}

// drop answers what Drop has to.
func (m *model) drop(client, filter string) bool {
	k := m.at(client, filter)
	if k < 0 {
		return false
	}
	*m = slices.Delete(*m, k, k+1)
	return true
}

// gone answers what Gone has to.
func (m *model) gone(client string) int {
	was := len(*m)
	*m = slices.DeleteFunc(*m, func(r record) bool { return r.client == client })
	return was - len(*m)
}

// find answers what Find has to: all qualities laid one behind the other, the greatest ahead, and of each client the first.
func (m model) find(name string) []api.Want {
	var all []api.Want
	for _, r := range m {
		if modelTakes(r.sub.Filter, name) {
			all = append(all, api.Want{Client: r.client, Qos: r.sub.Qos})
		}
	}
	sort.Slice(all, func(a, b int) bool {
		if all[a].Client != all[b].Client {
			return all[a].Client < all[b].Client
		}
		return all[a].Qos > all[b].Qos
	})
	return slices.CompactFunc(all, func(a, b api.Want) bool { return a.Client == b.Client })
}

// of answers what Of has to.
func (m model) of(client string) []api.Sub {
	var l []api.Sub
	for _, r := range m {
		if r.client == client {
			l = append(l, r.sub)
		}
	}
	return l
}

// call is one that turns an index.
type call struct {
	do     int // one of those below
	client string
	sub    api.Sub
}

// What a call does.
const (
	doAdd  = 0
	doDrop = 1
	doGone = 2
)

// told is what a call answers: false is 0, true is 1.
type told struct {
	had int
	e   api.Errno
}

// number answers what told has for a bool.
func number(b bool) int {
	if b {
		return 1
	}
	return 0
}

// on does a call on an index.
func (c call) on(x *subs.Index) told {
	switch c.do {
	case doAdd:
		had, e := x.Add(c.client, c.sub)
		return told{number(had), e}
	case doDrop:
		had, e := x.Drop(c.client, c.sub.Filter)
		return told{number(had), e}
	}
	n, e := x.Gone(c.client)
	return told{n, e}
}

// onModel does a call on a model; of no filters it knows those in none alone.
func (c call) onModel(m *model) told {
	switch {
	case c.do != doGone && slices.Contains(none, c.sub.Filter):
		return told{0, api.ErrFilter}
	case c.do == doAdd && !slices.Contains([]int{0, 1, 2}, c.sub.Qos):
		return told{0, api.ErrArg}
	case c.do == doAdd:
		return told{number(m.add(c.client, c.sub)), api.OK}
	case c.do == doDrop:
		return told{number(m.drop(c.client, c.sub.Filter)), api.OK}
	}
	return told{m.gone(c.client), api.OK}
}

// holdAll holds what an index answers for these clients and names.
func holdAll(t *testing.T, x *subs.Index, m model, clients, names []string) {
	t.Helper()
	for _, client := range clients {
		of(t, x, client, m.of(client)...)
	}
	for _, name := range names {
		find(t, x, name, m.find(name)...)
	}
}

// calls answers every call with these clients, filters and qualities.
func calls(clients, filters []string, qos []int) []call {
	var all []call
	for _, client := range clients {
		all = append(all, call{doGone, client, api.Sub{}})
		for _, filter := range filters {
			all = append(all, call{doDrop, client, with(filter, 0)})
			for _, n := range qos {
				all = append(all, call{doAdd, client, with(filter, n)})
			}
		}
	}
	return all
}

// P13.1, P13.2: every script of four calls.
func TestScriptsAsTheModel(t *testing.T) {
	clients, names := []string{"a", "b"}, []string{"x", "y"}
	all := calls(clients, []string{"x", "#"}, []int{0, 2})
	const most = 4
	script := make([]call, 0, most)
	var further func()
	further = func() {
		x, m := subs.New(), model{}
		for _, c := range script {
			if got, want := c.on(x), c.onModel(&m); got != want {
				t.Fatalf("%v: %v, not %v", script, got, want)
			}
		}
		holdAll(t, x, m, clients, names)
		if len(script) == most {
			return
		}
		for _, c := range all {
			script = append(script, c)
			further()
			script = script[:len(script)-1]
		}
	}
	further()
}

// P13.1, P13.2: long scripts at random, of calls that may be and such that may not.
func TestLongScriptsAsTheModel(t *testing.T) {
	random := rand.New(rand.NewSource(13))
	clients := []string{"", "a", "aa", "b", "\xff"}
	filters := []string{"#", "+", "a", "+/#", "a/#", "a/+", "+/b", "a/b", "/", "/+", "$/#", "$/a", "b/+/#", "+/+/c"}
	names := []string{"a", "b", "a/b", "a/", "/", "/b", "b/b/c", "$", "$/a", "$/b", "a/b/c"}
	all := calls(clients, append(slices.Clone(filters), none[:6]...), []int{0, 1, 2, 0, 1, 2, -1, 3})
	for range 40 {
		x, m := subs.New(), model{}
		for range 400 {
			c := all[random.Intn(len(all))]
			// Seldom, so that there is something to be gone.
			if c.do == doGone && random.Intn(2) > 0 {
				continue
			}
			if got, want := c.on(x), c.onModel(&m); got != want {
				t.Fatalf("%v: %v, not %v", c, got, want)
			}
			holdAll(t, x, m, clients, names)
		}
	}
}

// The model knows the chapter's examples, too.
func TestModel(t *testing.T) {
	m := model{}
	for _, r := range []record{{"b", with("a/#", 1)}, {"b", with("a/+", 2)}, {"a", with("#", 0)}} {
		if m.add(r.client, r.sub) {
			t.Fatalf("%v: had it", r)
		}
	}
	if l := m.find("a/x"); !slices.Equal(l, []api.Want{gets("a", 0), gets("b", 2)}) {
		t.Fatalf("%v", l)
	}
	if !m.drop("b", "a/+") || m.drop("b", "a/+") {
		t.Fatal("drop")
	}
	if l := m.find("a/x"); !slices.Equal(l, []api.Want{gets("a", 0), gets("b", 1)}) {
		t.Fatalf("%v", l)
	}
}
