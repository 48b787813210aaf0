package retain_test

import (
	"math"
	"slices"
	"strings"
	"testing"

	"bascule/api"
	"bascule/retain"
)

// noNames are texts that are no names.
var noNames = []string{"", "#", "+", "a/+", "a/#", "+/a", "a#", "a+b", "a\x00", "\xff", "\xc0\x80", "\xed\xa0\x80", strings.Repeat("a", 65536)}

// noFilters are texts that are no filters.
var noFilters = []string{"", "a#", "#/a", "a+", "+a", "a/#/", "a/#/b", "a\x00", "\xff", "\xc0\x80", strings.Repeat("a", 65536), strings.Repeat("/", 65535) + "#"}

// badQos are numbers that are no qualities.
var badQos = []int{-1, 3, math.MinInt, math.MaxInt, -2, 4, 256, 1 << 32}

// kept answers a message that is to be kept.
func kept(name, payload string, qos int) api.Message {
	return api.Message{Topic: name, Payload: payload, Qos: qos, Retain: true}
}

// passing answers a message that is not to be kept.
func passing(name, payload string, qos int) api.Message {
	return api.Message{Topic: name, Payload: payload, Qos: qos}
}

// put holds that a message may be put, and what Put tells.
func put(t *testing.T, k *retain.Kept, m api.Message) {
	t.Helper()
	if is, e := k.Put(m); is != m.Retain || e != api.OK {
		t.Fatalf("Put(%.80v): %v, %d", m, is, e)
	}
}

// refuse holds that Put answers an error, with nothing beside it.
func refuse(t *testing.T, k *retain.Kept, m api.Message, want api.Errno) {
	t.Helper()
	if is, e := k.Put(m); is || e != want {
		t.Fatalf("Put(%.80v): %v, %d, not %d", m, is, e, want)
	}
}

// at holds that just this message is kept for its name.
func at(t *testing.T, k *retain.Kept, want api.Message) {
	t.Helper()
	if m, is := k.At(want.Topic); m != want || !is {
		t.Fatalf("At(%.80q): %.80v, %v, not %.80v", want.Topic, m, is, want)
	}
}

// nothing holds that none is kept for a name, or a text that is none.
func nothing(t *testing.T, k *retain.Kept, names ...string) {
	t.Helper()
	for _, name := range names {
		if m, is := k.At(name); m != (api.Message{}) || is {
			t.Fatalf("At(%.80q): %.80v, %v", name, m, is)
		}
	}
}

// find holds what Find answers.
func find(t *testing.T, k *retain.Kept, filter string, wants ...api.Message) {
	t.Helper()
	if found, e := k.Find(filter); !slices.Equal(found, wants) || e != api.OK {
		t.Fatalf("Find(%.80q): %.300v, %d, not %.300v", filter, found, e, wants)
	}
}

// all holds that just these are kept, for All, Count and At.
func all(t *testing.T, k *retain.Kept, wants ...api.Message) {
	t.Helper()
	if l := k.All(); !slices.Equal(l, wants) {
		t.Fatalf("All: %.300v, not %.300v", l, wants)
	}
	if n := k.Count(); n != len(wants) {
		t.Fatalf("Count: %d, not %d", n, len(wants))
	}
	for _, m := range wants {
		at(t, k, m)
	}
}

// P14.1, P14.2: the chapter's examples.
func TestExamples(t *testing.T) {
	k := retain.New()
	put(t, k, kept("a/b", "x", 0))
	put(t, k, kept("a", "y", 0))
	put(t, k, passing("a", "z", 0))
	find(t, k, "#", kept("a", "y", 0), kept("a/b", "x", 0))
	put(t, k, kept("a", "", 0))
	find(t, k, "a")
	all(t, k, kept("a/b", "x", 0))
}

// P14.1: a new one has nothing, and two of them have nothing to do with each other.
func TestNew(t *testing.T) {
	k, other := retain.New(), retain.New()
	for range 2 {
		all(t, k)
		find(t, k, "#")
		find(t, k, "a")
		nothing(t, k, "a", "", "#")
		put(t, k, kept("a", "", 0))
		put(t, other, kept("a", "x", 1))
		all(t, other, kept("a", "x", 1))
	}
}

// P14.1: what is no name is ErrTopic, with any quality, be it to be kept or not; nothing is changed.
func TestPutRefusesNames(t *testing.T) {
	k := retain.New()
	put(t, k, kept("a", "x", 1))
	for _, name := range noNames {
		for _, qos := range append([]int{0, 1, 2}, badQos...) {
			for _, payload := range []string{"", "y"} {
				refuse(t, k, kept(name, payload, qos), api.ErrTopic)
				refuse(t, k, passing(name, payload, qos), api.ErrTopic)
				all(t, k, kept("a", "x", 1))
			}
		}
		nothing(t, k, name)
	}
	find(t, k, "#", kept("a", "x", 1))
}

// P14.1: what is no quality is ErrArg, for a name that has a message and for one that has none, be it to be kept or not, empty or not; nothing is changed.
func TestPutRefusesQos(t *testing.T) {
	k := retain.New()
	put(t, k, kept("a", "x", 1))
	for _, qos := range badQos {
		for _, name := range []string{"a", "b", "/", "$a", strings.Repeat("a", 65535)} {
			for _, payload := range []string{"", "x", "y"} {
				refuse(t, k, kept(name, payload, qos), api.ErrArg)
				refuse(t, k, passing(name, payload, qos), api.ErrArg)
				all(t, k, kept("a", "x", 1))
			}
		}
	}
	nothing(t, k, "b", "/", "$a")
}

// P14.1, P14.2: every quality that may be, names and payloads of all kinds: a message is kept with all that it has.
func TestPutTakes(t *testing.T) {
	names := []string{"a", "/", " ", "//", "$", "$SYS/x", "ä/€/\U0010ffff", strings.Repeat("a", 65535), strings.Repeat("/", 65535)}
	payloads := []string{"x", "\x00", "\xff\xfe", "#", " ", strings.Repeat("p", 1<<20)}
	for _, name := range names {
		k := retain.New()
		for _, payload := range payloads {
			for qos := range 3 {
				put(t, k, kept(name, payload, qos))
				all(t, k, kept(name, payload, qos))
				find(t, k, name, kept(name, payload, qos))
			}
		}
	}
}

// P14.1: what is not to be kept changes nothing, be its name's message there or not, be it empty or not.
func TestPutWithoutRetain(t *testing.T) {
	k := retain.New()
	for _, payload := range []string{"", "x", "y"} {
		for qos := range 3 {
			put(t, k, passing("a", payload, qos))
			all(t, k)
			nothing(t, k, "a")
		}
	}
	put(t, k, kept("a", "x", 1))
	for _, payload := range []string{"", "x", "y"} {
		for qos := range 3 {
			put(t, k, passing("a", payload, qos))
			put(t, k, passing("b", payload, qos))
			all(t, k, kept("a", "x", 1))
			nothing(t, k, "b")
		}
	}
	put(t, k, kept("a", "", 0))
	put(t, k, passing("a", "x", 1))
	all(t, k)
}

// P14.1: the one that is put again, the same or with another payload or quality, is the one that is kept.
func TestPutAgain(t *testing.T) {
	k := retain.New()
	put(t, k, kept("b", "b", 1))
	for _, m := range []api.Message{kept("a", "x", 0), kept("a", "x", 0), kept("a", "y", 0), kept("a", "y", 2), kept("a", "y", 1), kept("a", "yy", 0), kept("a", "x", 2), kept("a", "x", 2)} {
		put(t, k, m)
		all(t, k, m, kept("b", "b", 1))
		find(t, k, "a", m)
		find(t, k, "+", m, kept("b", "b", 1))
	}
}

// P14.1: an empty one leaves none for its name, whatever its quality, whether there was one or not, and one may be put again.
func TestPutEmpty(t *testing.T) {
	k := retain.New()
	put(t, k, kept("b", "y", 2))
	for qos := range 3 {
		for range 2 {
			put(t, k, kept("a", "", qos))
			all(t, k, kept("b", "y", 2))
			nothing(t, k, "a")
		}
		put(t, k, kept("a", "x", qos))
		all(t, k, kept("a", "x", qos), kept("b", "y", 2))
		for again := range 2 {
			put(t, k, kept("a", "", again))
			all(t, k, kept("b", "y", 2))
			find(t, k, "a")
			nothing(t, k, "a")
		}
	}
	put(t, k, kept("b", "", 0))
	all(t, k)
	find(t, k, "#")
	put(t, k, kept("b", "z", 0))
	all(t, k, kept("b", "z", 0))
}

// P14.2: At knows what is kept, not what was, not what never was, not what is no name, though filters among these take names that are kept.
func TestAt(t *testing.T) {
	k := retain.New()
	put(t, k, kept("a", "x", 1))
	put(t, k, kept("a/b", "y", 2))
	put(t, k, kept("once", "z", 0))
	put(t, k, kept("once", "", 0))
	at(t, k, kept("a", "x", 1))
	at(t, k, kept("a/b", "y", 2))
	nothing(t, k, "once", "b", "A", "a/", "/a", "a/b/", "a/c", "aa", "$a", " a")
	nothing(t, k, noNames...)
	all(t, k, kept("a", "x", 1), kept("a/b", "y", 2))
}

// P14.1, P14.2: a Kept that is nil answers ErrNil, false and 0, and nothing beside it, whatever it is handed.
func TestNil(t *testing.T) {
	var k *retain.Kept
	for _, name := range append([]string{"a", "a/b", "$a"}, noNames...) {
		for _, qos := range append([]int{0, 1, 2}, badQos...) {
			for _, payload := range []string{"", "x"} {
				refuse(t, k, kept(name, payload, qos), api.ErrNil)
				refuse(t, k, passing(name, payload, qos), api.ErrNil)
			}
		}
		nothing(t, k, name)
	}
	for _, filter := range append([]string{"a", "#", "a/+"}, noFilters...) {
		if l, e := k.Find(filter); len(l) > 0 || e != api.ErrNil {
			t.Fatalf("Find(%.80q): %v, %d", filter, l, e)
		}
	}
	all(t, k)
}
