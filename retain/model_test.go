package retain_test

import (
	"math/rand"
	"slices"
	"strings"
	"testing"

	"bascule/api"
	"bascule/retain"
)

// model is what a Kept has to be: all messages that were ever put and refused by nothing, gone through anew at each call.
type model []api.Message

// put answers what Put has to; of texts that are no names it knows those in noNames alone.
func (m *model) put(one api.Message) (bool, api.Errno) {
	switch {
	case slices.Contains(noNames, one.Topic):
		return false, api.ErrTopic
	case !slices.Contains([]int{0, 1, 2}, one.Qos):
		return false, api.ErrArg
	}
	*m = append(*m, one)
	return one.Retain, api.OK
}

// at answers what At has to: the last of a name that was to be kept, unless that was empty.
func (m model) at(name string) (api.Message, bool) {
	for _, one := range slices.Backward(m) {
		if one.Retain && one.Topic == name {
			if one.Payload == "" {
				break
			}
			return one, true
		}
	}
	return api.Message{}, false
}

// all answers what All has to: what is kept for each name that ever came.
func (m model) all() []api.Message {
	var names []string
	for _, one := range m {
		names = append(names, one.Topic)
	}
	slices.Sort(names)
	var l []api.Message
	for _, name := range slices.Compact(names) {
		if one, is := m.at(name); is {
			l = append(l, one)
		}
	}
	return l
}

// find answers what Find has to; of texts that are no filters it knows those in noFilters alone.
func (m model) find(filter string) ([]api.Message, api.Errno) {
	if slices.Contains(noFilters, filter) {
		return nil, api.ErrFilter
	}
	return slices.DeleteFunc(m.all(), func(one api.Message) bool { return !modelTakes(filter, one.Topic) }), api.OK
}

// modelTakes says whether a filter takes a name.
func modelTakes(filter, name string) bool {
	if name[0] == '$' && (filter[0] == '+' || filter[0] == '#') {
		return false
	}
	return takes(strings.Split(filter, "/"), strings.Split(name, "/"))
}

// takes says whether the levels of a filter take those of a name, one by one.
func takes(filter, name []string) bool {
	switch {
	case len(filter) == 0:
		return len(name) == 0
	case filter[0] == "#":
		return true
	case len(name) == 0:
		return false
	}
	return (filter[0] == "+" || filter[0] == name[0]) && takes(filter[1:], name[1:])
}

// both puts a message into a Kept and its model, and holds that both tell the same.
func both(t *testing.T, k *retain.Kept, m *model, one api.Message) {
	t.Helper()
	is, e := k.Put(one)
	if wantIs, wantE := m.put(one); is != wantIs || e != wantE {
		t.Fatalf("Put(%.80v): %v, %d, not %v, %d", one, is, e, wantIs, wantE)
	}
}

// holdAll holds all that a Kept answers, for these names and filters.
func holdAll(t *testing.T, k *retain.Kept, m model, names, filters []string) {
	t.Helper()
	all(t, k, m.all()...)
	for _, name := range names {
		got, is := k.At(name)
		if want, wantIs := m.at(name); got != want || is != wantIs {
			t.Fatalf("At(%.80q): %v, %v, not %v, %v", name, got, is, want, wantIs)
		}
	}
	for _, filter := range filters {
		l, e := k.Find(filter)
		if wants, want := m.find(filter); !slices.Equal(l, wants) || e != want {
			t.Fatalf("Find(%.80q): %v, %d, not %v, %d", filter, l, e, wants, want)
		}
	}
}

// messages answers every message with these names, payloads and qualities, to be kept or not.
func messages(names, payloads []string, qos []int) []api.Message {
	var l []api.Message
	for _, name := range names {
		for _, payload := range payloads {
			for _, n := range qos {
				l = append(l, kept(name, payload, n), passing(name, payload, n))
			}
		}
	}
	return l
}

// P14.1, P14.2: every script of four messages.
func TestScriptsAsTheModel(t *testing.T) {
	names, filters := []string{"a", "a/b", "b"}, []string{"#", "a", "+", "a/#", "+/b"}
	every := messages(names[:2], []string{"", "x", "y"}, []int{0, 2})
	const most = 4
	script := make([]api.Message, 0, most)
	var further func()
	further = func() {
		k, m := retain.New(), model{}
		for _, one := range script {
			both(t, k, &m, one)
		}
		if len(script) == most {
			all(t, k, m.all()...)
			return
		}
		holdAll(t, k, m, names, filters)
		for _, one := range every {
			script = append(script, one)
			further()
			script = script[:len(script)-1]
		}
	}
	further()
}

// P14.1, P14.2: long scripts at random, of messages that may be and such that may not.
func TestLongScriptsAsTheModel(t *testing.T) {
	random := rand.New(rand.NewSource(14))
	names := []string{"a", "a/b", "a/", "/", "/b", "b", "b/a", "a/b/c", "aa", "$", "$/a", "€", "A"}
	filters := append([]string{"#", "+", "a", "+/#", "a/#", "a/+", "+/b", "a/b", "/", "/+", "$/#", "$/a", "b/+/#", "+/+/c", "€"}, noFilters[:9]...)
	every := messages(append(slices.Clone(names), noNames[:6]...), []string{"", "", "x", "y", "\x00\xff"}, []int{0, 1, 2, 0, 1, 2, -1, 3})
	for range 30 {
		k, m := retain.New(), model{}
		for range 200 {
			both(t, k, &m, every[random.Intn(len(every))])
			holdAll(t, k, m, append(slices.Clone(names), noNames[:9]...), filters)
		}
	}
}

// The model knows the chapter's examples, too.
func TestModel(t *testing.T) {
	m := model{}
	for _, one := range []api.Message{kept("a/b", "x", 0), kept("a", "y", 0), passing("a", "z", 0)} {
		if is, e := m.put(one); is != one.Retain || e != api.OK {
			t.Fatalf("%v, %d", is, e)
		}
	}
	if l, e := m.find("#"); !slices.Equal(l, []api.Message{kept("a", "y", 0), kept("a/b", "x", 0)}) || e != api.OK {
		t.Fatalf("%v, %d", l, e)
	}
	m.put(kept("a", "", 0))
	if l, e := m.find("a"); len(l) > 0 || e != api.OK {
		t.Fatalf("%v, %d", l, e)
	}
	if l := m.all(); !slices.Equal(l, []api.Message{kept("a/b", "x", 0)}) {
		t.Fatalf("%v", l)
	}
}
