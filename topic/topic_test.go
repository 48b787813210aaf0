package topic_test

import (
	"strings"
	"testing"

	"bascule/api"
	"bascule/topic"
)

// mostBytes is how many bytes a string may have.
const mostBytes = 65535

// noStrings are texts that are no strings, whatever levels they have.
func noStrings() []string {
	return []string{
		"\x00", "a\x00", "\x00a", "a/\x00", "a/\x00/b", "\x00/a", "+/\x00", "\x00/#",
		"\x80", "\xff", "a/\xff", "\xff/a", "a/\xc3", "\xc3/a", "\xc0\x80", "\xc0\xaf", "a\xc0\xafb", "\xed\xa0\x80", "a/\xed\xbf\xbf/b", "\xf4\x90\x80\x80", "\xe2\x82", "\xe2\x82/", "+/\xff/#", "\xff/#", "$\xff",
		strings.Repeat("a", mostBytes+1), strings.Repeat("/", mostBytes+1), strings.Repeat("a/", mostBytes/2+1), strings.Repeat("+/", mostBytes/2+1), strings.Repeat("é", mostBytes/2+1),
		strings.Repeat("a", mostBytes) + "\x00", strings.Repeat("a", 2*mostBytes),
	}
}

// plain are names, each of which is a filter, too.
func plain() []string {
	return []string{
		"a", "ab", "a b", " ", "a/b", "a/b/c", "A", "ä/€/😀", "$", "$SYS", "$SYS/x", "a/$", "a/$b", "/$", "$/$", "$$", "*", "?", "a*b", ".", "..", "a/./b", "\x01", "\x7f", "\\", "\ufeff", "\uffff", "\ufffd", "a\nb", "-", "%2B", "＋", "＃",
		"/", "//", "///", "a/", "/a", "a//b", "//a", "a//", "/a/", "a/b/", "a///b", "/a//b/",
		strings.Repeat("a", mostBytes), strings.Repeat("/", mostBytes), strings.Repeat("a/", mostBytes/2) + "a", strings.Repeat("é", mostBytes/2) + "a", strings.Repeat("é", mostBytes/2) + "/",
	}
}

// wilds are filters that are no names.
func wilds() []string {
	return []string{
		"+", "#", "+/+", "+/#", "a/+", "a/#", "+/a", "a/+/b", "a/+/#", "+/a/#", "+/a/+", "a/b/#", "a/b/+", "+/b/c", "+/+/+", "+/+/#", "+/+/+/#",
		"/+", "/#", "+/", "+//", "//+", "//#", "/+/", "a//#", "a/+/", "+//#", "$/+", "$/#", "$SYS/+/x", "$SYS/#", "+/$", "+/$x/#", "ä/+/€/#", "\x01/#",
		strings.Repeat("+/", mostBytes/2) + "+", strings.Repeat("+/", mostBytes/2) + "#", strings.Repeat("/", mostBytes-1) + "#", strings.Repeat("a", mostBytes-2) + "/#", "+/" + strings.Repeat("a", mostBytes-2),
	}
}

// misplaced are strings that are neither names nor filters: signs beside others in a level, and # ahead of another level.
func misplaced() []string {
	var out []string
	for _, level := range []string{
		"+a", "a+", "a+b", "#a", "a#", "a#b", "++", "##", "+#", "#+", "+++", "a++", "++a", "##a", "a##", "a+#", "+a#", "+ ", " +", "# ", " #", "$+", "$#", "+$", "#$", "+\x01", "\x01#", "é+", "#é",
	} {
		for _, around := range [][2]string{
			{"", ""}, {"", "/"}, {"/", ""}, {"", "/b"}, {"b/", ""}, {"b/", "/c"}, {"/", "/"}, {"//", "//"}, {"+/", ""}, {"", "/+"}, {"+/", "/+"}, {"", "/#"}, {"b/", "/#"}, {"b/c/", ""}, {"", "/b/c"}, {"$/", ""}, {"", "/$"},
		} {
			out = append(out, around[0]+level+around[1])
		}
	}
	for _, behind := range []string{"/", "//", "/a", "/+", "/#", "/a/b", "/a/#", "/$"} {
		for _, ahead := range []string{"", "/", "a/", "+/", "a/b/", "a//", "$/"} {
			out = append(out, ahead+"#"+behind)
		}
	}
	long := strings.Repeat("a", mostBytes-1)
	return append(out, long+"+", long+"#", "+"+long, "#"+long, "#"+strings.Repeat("/", mostBytes-1), strings.Repeat("+/", mostBytes/2-1)+"+#")
}

// holdText holds Name and Filter of one text.
func holdText(t *testing.T, s string, name, filter api.Errno) {
	t.Helper()
	if e := topic.Name(s); e != name {
		t.Errorf("Name(%s): %d, not %d", short(s), e, name)
	}
	if e := topic.Filter(s); e != filter {
		t.Errorf("Filter(%s): %d, not %d", short(s), e, filter)
	}
}

// P12.1: names are filters, too: with levels that are empty, and just as long as may be.
func TestNames(t *testing.T) {
	for _, s := range plain() {
		holdText(t, s, api.OK, api.OK)
	}
}

// P12.1: filters that have a + or a # for a level are no names.
func TestFilters(t *testing.T) {
	for _, s := range wilds() {
		holdText(t, s, api.ErrTopic, api.OK)
	}
}

// P12.1: a + or # that is not a level alone, and a # ahead of another level, at each place.
func TestMisplaced(t *testing.T) {
	for _, s := range misplaced() {
		holdText(t, s, api.ErrTopic, api.ErrFilter)
	}
}

// P12.1: the empty text, and what is no string, is neither.
func TestNoStrings(t *testing.T) {
	holdText(t, "", api.ErrTopic, api.ErrFilter)
	for _, s := range noStrings() {
		holdText(t, s, api.ErrTopic, api.ErrFilter)
	}
}

// holdPair holds Matches of one filter and one name.
func holdPair(t *testing.T, filter, name string, want bool) {
	t.Helper()
	if is, e := topic.Matches(filter, name); is != want || e != api.OK {
		t.Errorf("Matches(%s, %s): %v, %d, not %v", short(filter), short(name), is, e, want)
	}
}

// taken holds that filter takes each of the names.
func taken(t *testing.T, filter string, names ...string) {
	t.Helper()
	for _, name := range names {
		holdPair(t, filter, name, true)
	}
}

// left holds that filter takes none of the names.
func left(t *testing.T, filter string, names ...string) {
	t.Helper()
	for _, name := range names {
		holdPair(t, filter, name, false)
	}
}

// P12.2: the chapter's examples.
func TestExamples(t *testing.T) {
	taken(t, "a/#", "a", "a/b/c")
	left(t, "a/#", "ab")
	taken(t, "+/b", "a/b")
	taken(t, "+/+", "/b")
	left(t, "+", "a/b")
	left(t, "#", "$SYS/x")
	taken(t, "$SYS/#", "$SYS/x")
	left(t, "+/x", "$SYS/x")
	for _, s := range []string{"a#", "#/a", "a/+b"} {
		holdText(t, s, api.ErrTopic, api.ErrFilter)
	}
	holdText(t, "a/+", api.ErrTopic, api.OK)
}

// P12.2: a filter that is none is told ahead of a name that is none, with false.
func TestRefused(t *testing.T) {
	noFilters := append(append(noStrings(), ""), misplaced()...)
	noNames := append(append(append(noStrings(), ""), misplaced()...), wilds()...)
	for _, filter := range noFilters {
		for _, name := range []string{"a", "/", "a/b", "$", "", "+", "#", "a#", "\x00", "\xff", filter, noStrings()[len(noStrings())-1]} {
			refused(t, filter, name, api.ErrFilter)
		}
	}
	for _, name := range noNames {
		for _, filter := range []string{"a", "#", "+", "+/+", "a/#", "/", "$/#", "b"} {
			refused(t, filter, name, api.ErrTopic)
		}
	}
}

// refused holds that Matches answers an error, and false beside it.
func refused(t *testing.T, filter, name string, want api.Errno) {
	t.Helper()
	if is, e := topic.Matches(filter, name); is || e != want {
		t.Errorf("Matches(%s, %s): %v, %d, not %d", short(filter), short(name), is, e, want)
	}
}

// P12.2: a level that is not wild takes just itself.
func TestPlainLevels(t *testing.T) {
	taken(t, "a", "a")
	left(t, "a", "b", "A", "aa", "a/", "/a", "a/a", "/", "a/b", "$a", " a", "a ")
	taken(t, "a/b/c", "a/b/c")
	left(t, "a/b/c", "a/b", "a/b/c/d", "a/b/d", "a/x/c", "x/b/c", "a//c", "a/b/", "/a/b/c", "a/b/c/", "abc", "a/bc", "ab/c", "c/b/a")
	taken(t, "*", "*")
	left(t, "*", "a")
	left(t, ".", "a")
	left(t, "a/?", "a/b")
	left(t, "ab", "a", "b", "abc")
}

// P12.2: + takes any level, an empty one too, but just one.
func TestAnyLevel(t *testing.T) {
	taken(t, "+", "a", "abc", "a b", "€", "*")
	left(t, "+", "a/b", "/", "a/", "/a", "//")
	taken(t, "a/+", "a/b", "a/", "a/$", "a/$b", "a/abc")
	left(t, "a/+", "a", "a/b/c", "a/b/", "b/b", "ab/c", "/b", "aa", "a//")
	taken(t, "+/b", "a/b", "/b", "b/b")
	left(t, "+/b", "b", "a/c", "a/b/c", "x/a/b", "a/b/", "//b")
	taken(t, "a/+/c", "a/b/c", "a//c", "a/a/c", "a/$/c")
	left(t, "a/+/c", "a/c", "a/b/b/c", "a/b/d", "b/b/c", "a/b/c/d", "a/b", "a///c")
	taken(t, "+/+", "a/b", "/b", "a/", "/", "a/$b")
	left(t, "+/+", "a", "a/b/c", "//", "a/b/")
	taken(t, "+/+/+", "//", "a//", "/a/", "//a", "a/b/c")
	left(t, "+/+/+", "/", "///", "a", "a/b", "a/b/c/d")
}

// P12.2: # takes all levels that are left, one, many, or none.
func TestAllLeft(t *testing.T) {
	taken(t, "#", "a", "a/b", "/", "//", "a/", "/a", "a//b", "a/$", "/$SYS")
	taken(t, "a/#", "a", "a/", "a/b", "a/b/c", "a//", "a//b", "a/$b", "a/a/a/a/a/a/a/a")
	left(t, "a/#", "b", "ab", "/a", "aa/b", "/", "A", "b/a", "$a")
	taken(t, "/#", "/", "/a", "//", "/a/b", "/$")
	left(t, "/#", "a", "a/", "a/b", "$")
	taken(t, "a//#", "a/", "a//", "a//b", "a//b/c")
	left(t, "a//#", "a", "a/b", "a/b/c", "/")
	taken(t, "a/b/#", "a/b", "a/b/", "a/b/c", "a/b/c/d")
	left(t, "a/b/#", "a", "a/", "a/c", "a/bc", "a/c/b", "b/a/b")
	taken(t, "+/#", "a", "/", "a/b", "/a", "a/b/c", "//")
	taken(t, "a/+/#", "a/", "a/b", "a/b/", "a/b/c", "a//b")
	left(t, "a/+/#", "a", "b/a", "/a/b")
	taken(t, "+/+/#", "/", "a/b", "a/b/c", "//", "a/")
	left(t, "+/+/#", "a", "abc")
	taken(t, "+/b/#", "a/b", "/b", "a/b/c")
	left(t, "+/b/#", "a", "b", "a/c", "b/a/b")
}

// P12.2: filters that have more levels than the name, or fewer, with # at the end and without.
func TestUnlikeNumbers(t *testing.T) {
	for many := 1; many <= 6; many++ {
		name := "a" + strings.Repeat("/a", many-1)
		for of := 1; of <= 6; of++ {
			same, any := "a"+strings.Repeat("/a", of-1), "+"+strings.Repeat("/+", of-1)
			for _, filter := range []string{same, any} {
				holdPair(t, filter, name, of == many)
				holdPair(t, filter+"/#", name, of <= many)
				holdPair(t, filter+"/", name+"/", of == many)
				holdPair(t, filter, name+"/", of == many+1 && filter == any)
			}
		}
	}
}

// P12.2: a name that begins with $ is taken by no filter whose first level is wild, whether $ is the level or its first sign.
func TestHidden(t *testing.T) {
	for _, first := range []string{"$", "$SYS", "$$", "$a", "$ "} {
		for _, behind := range []string{"", "/", "/x", "/x/y", "//", "/$", "/$x"} {
			name := first + behind
			left(t, "#", name)
			left(t, "+/#", name)
			left(t, "+"+behind, name)
			left(t, "+"+behind+"/#", name)
			left(t, strings.Repeat("+/", strings.Count(name, "/"))+"+", name)
			left(t, "/#", name)
			taken(t, name, name)
			taken(t, name+"/#", name)
			taken(t, first+"/#", name)
			taken(t, first+strings.Repeat("/+", strings.Count(name, "/")), name)
			left(t, first+"x/#", name)
		}
	}
	left(t, "$", "$SYS")
	left(t, "$SYS", "$")
	left(t, "$/#", "$SYS/x", "$SYS", "SYS")
}

// P12.2: a $ at a later level, or not at a level's beginning, hides nothing.
func TestHiddenLater(t *testing.T) {
	for _, name := range []string{"a/$", "a/$SYS", "/$", "/$SYS", "a$", "a$/$", " $", "a/$/$b"} {
		taken(t, "#", name)
		taken(t, "+/#", name)
		taken(t, strings.Repeat("+/", strings.Count(name, "/"))+"+", name)
		taken(t, name, name)
	}
	taken(t, "a/+", "a/$SYS")
	taken(t, "a/#", "a/$SYS/x")
	taken(t, "+/$SYS", "a/$SYS")
	taken(t, "/+", "/$")
}

// P12.2: as many levels as a string has room for.
func TestManyLevels(t *testing.T) {
	half := mostBytes / 2
	name := strings.Repeat("a/", half) + "a"
	taken(t, name, name)
	taken(t, strings.Repeat("+/", half)+"+", name)
	taken(t, strings.Repeat("+/", half)+"#", name)
	taken(t, strings.Repeat("a/", half-1)+"#", name)
	taken(t, strings.Repeat("+/", half)+"a", name)
	left(t, strings.Repeat("a/", half)+"b", name)
	left(t, strings.Repeat("+/", half)+"b", name)
	left(t, "b/"+strings.Repeat("+/", half-1)+"#", name)
	left(t, strings.Repeat("+/", half-1)+"+", name)
	left(t, strings.Repeat("a/", half)+"a", name[:len(name)-2])
	taken(t, strings.Repeat("a/", half)+"#", name[:len(name)-2])
	left(t, strings.Repeat("a/", half)+"#", name[:len(name)-4])
	slashes := strings.Repeat("/", mostBytes)
	taken(t, slashes, slashes)
	taken(t, slashes[1:]+"+", slashes[1:])
	taken(t, slashes[1:]+"#", slashes)
	taken(t, slashes[1:]+"#", slashes[1:])
	taken(t, slashes[1:]+"#", slashes[2:])
	left(t, slashes[1:]+"#", slashes[3:])
	left(t, slashes, slashes[1:])
	left(t, slashes[1:], slashes)
	left(t, "+/#", "$"+slashes[1:])
	taken(t, "$/#", "$"+slashes[1:])
	long := strings.Repeat("a", mostBytes)
	taken(t, "+", long)
	taken(t, "#", long)
	left(t, long, long[1:])
}
