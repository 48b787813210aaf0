package retain_test

import (
	"math/rand"
	"slices"
	"testing"

	"bascule/api"
	"bascule/retain"
)

// orders gives every order of a list; the list that it gives is its own.
func orders(l []api.Message, give func([]api.Message)) {
	var from func(n int)
	from = func(n int) {
		if n == len(l) {
			give(l)
			return
		}
		for j := n; j < len(l); j++ {
			l[n], l[j] = l[j], l[n]
			from(n + 1)
			l[n], l[j] = l[j], l[n]
		}
	}
	from(0)
}

// merges gives every list of the messages of two lists in which those of each keep their order.
func merges(a, b, ahead []api.Message, give func([]api.Message)) {
	if len(a) == 0 || len(b) == 0 {
		give(slices.Concat(ahead, a, b))
		return
	}
	merges(a[1:], b, append(slices.Clone(ahead), a[0]), give)
	merges(a, b[1:], append(slices.Clone(ahead), b[0]), give)
}

// P14.3: messages of several names, in every order: the same is kept.
func TestOrders(t *testing.T) {
	list := []api.Message{kept("a", "1", 0), kept("a/b", "2", 1), passing("a", "3", 2), kept("$", "4", 2), kept("b", "", 1), kept("/", "6", 0), passing("c", "7", 0)}
	orders(list, func(order []api.Message) {
		k := retain.New()
		for _, m := range order {
			put(t, k, m)
		}
		all(t, k, kept("$", "4", 2), kept("/", "6", 0), kept("a", "1", 0), kept("a/b", "2", 1))
		find(t, k, "#", kept("/", "6", 0), kept("a", "1", 0), kept("a/b", "2", 1))
		nothing(t, k, "b", "c")
	})
}

// P14.3: messages of one name, in every order: the last one that was to be kept is, unless it is empty.
func TestOrdersOfOneName(t *testing.T) {
	list := []api.Message{kept("a", "1", 0), kept("a", "2", 1), kept("a", "", 2), passing("a", "4", 2), passing("a", "", 0), kept("a", "2", 2)}
	orders(list, func(order []api.Message) {
		k := retain.New()
		var last []api.Message
		for _, m := range order {
			put(t, k, m)
			switch {
			case m.Retain && m.Payload == "":
				last = nil
			case m.Retain:
				last = []api.Message{m}
			}
			all(t, k, last...)
			find(t, k, "+", last...)
		}
	})
}

// to answers the same messages, for another name.
func to(name string, script []api.Message) []api.Message {
	script = slices.Clone(script)
	for n := range script {
		script[n].Topic = name
	}
	return script
}

// seen is what a message came to, and what is kept for its name behind it.
type seen struct {
	told  bool
	e     api.Errno
	m     api.Message
	is    bool
	found api.Message // for it by #, or by itself, if a wild sign does not take it
}

// look answers what there is for a name.
func look(k *retain.Kept, name string) seen {
	s := seen{}
	s.m, s.is = k.At(name)
	for _, filter := range []string{"#", name} {
		found, _ := k.Find(filter)
		for _, m := range found {
			if m.Topic == name {
				s.found = m
			}
		}
	}
	return s
}

// run puts a script, and answers what was seen of a name behind each of its own messages; it holds that no other one's turns what there is for it.
func run(t *testing.T, script []api.Message, name string) []seen {
	t.Helper()
	k := retain.New()
	var l []seen
	last := look(k, name)
	for _, m := range script {
		told, e := k.Put(m)
		now := look(k, name)
		if m.Topic != name {
			if now != last {
				t.Fatalf("%v of %v turns %q: %v, not %v", m, script, name, now, last)
			}
			continue
		}
		last = now
		now.told, now.e = told, e
		l = append(l, now)
	}
	return l
}

// holdApart holds that what is seen of a name is what is seen where it is alone.
func holdApart(t *testing.T, script []api.Message, name string) {
	t.Helper()
	alone := slices.DeleteFunc(slices.Clone(script), func(m api.Message) bool { return m.Topic != name })
	if got, want := run(t, script, name), run(t, alone, name); !slices.Equal(got, want) {
		t.Fatalf("%v: of %q %v, not %v", script, name, got, want)
	}
}

// P14.3: messages of two names, in every way side by side: for each is kept just what is where it is alone.
func TestTwoSideBySide(t *testing.T) {
	scripts := [][]api.Message{
		{kept("", "x", 0), kept("", "y", 1), kept("", "", 0), kept("", "", 1), kept("", "x", 2)},
		{passing("", "x", 1), kept("", "", 2), kept("", "x", 1), passing("", "", 0), kept("", "y", 3)},
		{kept("", "y", 2), kept("", "y", 2), passing("", "z", 0), kept("", "", -1), kept("", "", 0)},
	}
	for _, one := range scripts {
		for _, other := range scripts {
			for _, pair := range [][2]string{{"a", "b"}, {"a", "a/"}, {"a", "a/b"}, {"/", "//"}, {"$", "$/a"}, {"a", "A"}, {"a", "+"}, {"a/b", "#"}} {
				merges(to(pair[0], one), to(pair[1], other), nil, func(script []api.Message) {
					holdApart(t, script, pair[0])
					holdApart(t, script, pair[1])
				})
			}
		}
	}
}

// P14.3: messages of several names, at random.
func TestSeveralSideBySide(t *testing.T) {
	random := rand.New(rand.NewSource(141))
	names := []string{"a", "a/", "a/b", "/", "/a", "b", "$a", "aa"}
	every := messages(append([]string{"#", "", "a/+"}, names...), []string{"", "x", "y"}, []int{0, 1, 2, 3})
	for range 300 {
		var script []api.Message
		for range 80 {
			script = append(script, every[random.Intn(len(every))])
		}
		for _, name := range names {
			holdApart(t, script, name)
		}
	}
}

// P14.3: what stands last in a long script is what is kept, whatever went ahead of it.
func TestTheLastOne(t *testing.T) {
	random := rand.New(rand.NewSource(142))
	names := []string{"a", "a/b", "b"}
	every := messages(names, []string{"", "x", "y"}, []int{0, 1, 2})
	k := retain.New()
	for range 2000 {
		for range 5 {
			put(t, k, every[random.Intn(len(every))])
		}
		var wants []api.Message
		for n, name := range names {
			m := kept(name, "last", n)
			put(t, k, m)
			put(t, k, passing(name, "", n))
			wants = append(wants, m)
		}
		all(t, k, wants...)
	}
}
