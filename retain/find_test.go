package retain_test

import (
	"slices"
	"strconv"
	"strings"
	"testing"

	"bascule/api"
	"bascule/retain"
)

// with answers a Kept that has a message of each of these names, put in this order.
func with(t *testing.T, names ...string) *retain.Kept {
	t.Helper()
	k := retain.New()
	for _, name := range names {
		put(t, k, of(name))
	}
	return k
}

// of answers the message that with keeps for a name.
func of(name string) api.Message {
	return kept(name, "of "+name[:min(len(name), 9)], len(name)%3)
}

// ofAll answers those for several names.
func ofAll(names []string) []api.Message {
	var l []api.Message
	for _, name := range names {
		l = append(l, of(name))
	}
	return l
}

// P14.2: what is no filter is ErrFilter, with nothing beside it, though nothing is kept, or names that are much alike.
func TestFindRefuses(t *testing.T) {
	for _, k := range []*retain.Kept{retain.New(), with(t, "a"), with(t, "a", "b", "a/b", "$", "/", "a/", "a/b/c")} {
		was := k.All()
		for _, filter := range noFilters {
			if l, e := k.Find(filter); len(l) > 0 || e != api.ErrFilter {
				t.Fatalf("Find(%.80q): %v, %d", filter, l, e)
			}
			all(t, k, was...)
		}
	}
}

// P14.2: just those whose names the filter takes: none, one, many, all.
func TestFindTakes(t *testing.T) {
	names := []string{"/", "/a", "/b", "a", "a/", "a/b", "a/b/c", "a/c", "aa", "b", "b/a", "b/b", "€/b"}
	k := with(t, names...)
	for filter, wants := range map[string][]string{
		"#":         names,
		"a":         {"a"},
		"a/b":       {"a/b"},
		"/":         {"/"},
		"+":         {"a", "aa", "b"},
		"+/+":       {"/", "/a", "/b", "a/", "a/b", "a/c", "b/a", "b/b", "€/b"},
		"/+":        {"/", "/a", "/b"},
		"/#":        {"/", "/a", "/b"},
		"+/b":       {"/b", "a/b", "b/b", "€/b"},
		"+/b/#":     {"/b", "a/b", "a/b/c", "b/b", "€/b"},
		"+/b/+":     {"a/b/c"},
		"a/+":       {"a/", "a/b", "a/c"},
		"a/#":       {"a", "a/", "a/b", "a/b/c", "a/c"},
		"a/b/#":     {"a/b", "a/b/c"},
		"+/#":       names,
		"+/+/#":     {"/", "/a", "/b", "a/", "a/b", "a/b/c", "a/c", "b/a", "b/b", "€/b"},
		"+/+/+":     {"a/b/c"},
		"+/+/+/#":   {"a/b/c"},
		"+/+/+/+":   nil,
		"+/+/+/+/#": nil,
		"aaa":       nil,
		"A":         nil,
		"c/#":       nil,
		"c/+":       nil,
		"a/b/c/d":   nil,
		"a/b/c/#":   {"a/b/c"},
		"$/#":       nil,
		"€/+":       {"€/b"},
		"aa/#":      {"aa"},
		"+/a":       {"/a", "b/a"},
		"b/a/#":     {"b/a"},
	} {
		find(t, k, filter, ofAll(wants)...)
	}
	all(t, k, ofAll(names)...)
}

// P14.2: by rising names, byte by byte, a name ahead of those that it begins, in whatever order they were put.
func TestRises(t *testing.T) {
	rising := []string{"\x01", " ", "!", "/", "//", "/a", "0", "1", "10", "2", "A", "B", "a", "a ", "a!", "a/", "a/a", "a0", "aa", "ab", "b", "\x7f", "\u0080", "ä", "€", "\uffff", "\U00010000", "\U0010ffff"}
	wants := ofAll(rising)
	for start := range rising {
		var order []string
		for k := range rising {
			order = append(order, rising[(start+5*k)%len(rising)])
		}
		k := with(t, order...)
		find(t, k, "#", wants...)
		all(t, k, wants...)
		find(t, k, "a/#", ofAll([]string{"a", "a/", "a/a"})...)
		find(t, k, "+/+", ofAll([]string{"/", "/a", "a/", "a/a"})...)
	}
}

// P14.2: a name that begins with $ is taken by no wild first level, and stands in All as any other.
func TestHidden(t *testing.T) {
	names := []string{"$", "$/a", "$/b", "$a", "a", "a/$"}
	k := with(t, "a/$", "$/b", "$a", "a", "$", "$/a")
	all(t, k, ofAll(names)...)
	find(t, k, "#", of("a"), of("a/$"))
	find(t, k, "+", of("a"))
	find(t, k, "+/#", of("a"), of("a/$"))
	find(t, k, "+/+", of("a/$"))
	find(t, k, "+/a")
	find(t, k, "$", of("$"))
	find(t, k, "$a", of("$a"))
	find(t, k, "$/+", of("$/a"), of("$/b"))
	find(t, k, "$/#", of("$"), of("$/a"), of("$/b"))
	find(t, k, "a/+", of("a/$"))
}

// P14.2: the longest names, and the longest filters.
func TestFindLongest(t *testing.T) {
	long, longer := strings.Repeat("a/", 32766)+"b", strings.Repeat("a/", 32767)+"b"
	k := with(t, longer, "a", long)
	all(t, k, ofAll([]string{"a", longer, long})...)
	find(t, k, longer, of(longer))
	find(t, k, "a/#", of("a"), of(longer), of(long))
	find(t, k, strings.Repeat("+/", 32766)+"+", of(long))
	find(t, k, strings.Repeat("+/", 32767)+"+", of(longer))
	find(t, k, strings.Repeat("+/", 32767)+"#", of(longer), of(long))
	find(t, k, strings.Repeat("+/", 32767)+"c")
}

// P14.1, P14.2: All, Find and Count behind each call, while names come and go.
func TestComeAndGo(t *testing.T) {
	k := retain.New()
	order := []string{"m", "c", "x", "c/d", "a", "z", "b"}
	for n, name := range order {
		put(t, k, of(name))
		wants := slices.Sorted(slices.Values(order[:n+1]))
		all(t, k, ofAll(wants)...)
		find(t, k, "#", ofAll(wants)...)
	}
	for n, name := range order {
		put(t, k, kept(name, "", 0))
		wants := slices.Sorted(slices.Values(order[n+1:]))
		all(t, k, ofAll(wants)...)
		find(t, k, "#", ofAll(wants)...)
		nothing(t, k, order[:n+1]...)
	}
}

// P14.1, P14.2: many names, of which some go.
func TestMany(t *testing.T) {
	k := retain.New()
	const most = 20000
	name := func(n int) string { return "n/" + strconv.Itoa(n%10) + "/" + strconv.Itoa(100000+n) }
	var wants, threes, left []api.Message
	for n := range most {
		put(t, k, of(name(n)))
	}
	for last := range 10 {
		for n := last; n < most; n += 10 {
			wants = append(wants, of(name(n)))
			if last == 3 {
				threes = append(threes, of(name(n)))
			} else {
				left = append(left, of(name(n)))
			}
		}
	}
	find(t, k, "n/#", wants...)
	find(t, k, "n/3/+", threes...)
	find(t, k, "+/+/100013", of(name(13)))
	all(t, k, wants...)
	for _, m := range threes {
		put(t, k, kept(m.Topic, "", 2))
	}
	all(t, k, left...)
	find(t, k, "n/3/#")
	for _, m := range left {
		put(t, k, kept(m.Topic, "", 0))
	}
	all(t, k)
}
