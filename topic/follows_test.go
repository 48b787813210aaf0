package topic_test

import (
	"strings"
	"testing"

	"bascule/api"
	"bascule/topic"
)

// takes tells whether filter takes name, both of which are to be what they say.
func takes(t *testing.T, filter, name string) bool {
	t.Helper()
	is, e := topic.Matches(filter, name)
	if e != api.OK {
		t.Fatalf("Matches(%s, %s): %d", short(filter), short(name), e)
	}
	return is
}

// names answers the texts that Name takes.
func names(all []string) []string {
	var out []string
	for _, s := range all {
		if topic.Name(s) == api.OK {
			out = append(out, s)
		}
	}
	return out
}

// filters answers the texts that Filter takes.
func filters(all []string) []string {
	var out []string
	for _, s := range all {
		if topic.Filter(s) == api.OK {
			out = append(out, s)
		}
	}
	return out
}

// P12.3: each name is a filter, and takes just itself.
func TestNameTakesItself(t *testing.T) {
	for _, all := range [][]string{names(texts("ab$/", 4)), names(plain())} {
		for _, filter := range all {
			for _, name := range all {
				if is := takes(t, filter, name); is != (filter == name) {
					t.Errorf("Matches(%s, %s): %v", short(filter), short(name), is)
				}
			}
		}
	}
}

// P12.3: # takes just the names that do not begin with $.
func TestAllTakesWhatIsNotHidden(t *testing.T) {
	for _, name := range append(names(texts("ab$/", 6)), plain()...) {
		if is := takes(t, "#", name); is == strings.HasPrefix(name, "$") {
			t.Errorf("Matches(#, %s): %v", short(name), is)
		}
	}
}

// P12.3: a filter with # behind it takes what it takes alone, or with some levels, each of them any, behind it; and nothing else.
func TestAllBehindOthers(t *testing.T) {
	const most = 5
	all := names(texts("a$/", most))
	for _, ahead := range filters(texts("a$/+", 3)) {
		for _, name := range all {
			one := false
			for many := range most + 2 {
				one = one || takes(t, ahead+strings.Repeat("/+", many), name)
			}
			if is := takes(t, ahead+"/#", name); is != one {
				t.Errorf("Matches(%s, %s): %v", short(ahead+"/#"), short(name), is)
			}
		}
	}
}

// P12.3: a name that a filter with # takes is taken with any level behind it, too.
func TestAnyLevelBehindTheName(t *testing.T) {
	behind := []string{"a", "", "$", "b c", "€", "/", "a/b"}
	for _, filter := range filters(texts("a$/+#", 4)) {
		if !strings.HasSuffix(filter, "#") {
			continue
		}
		for _, name := range names(texts("a$/", 4)) {
			for _, level := range behind {
				if takes(t, filter, name) && !takes(t, filter, name+"/"+level) {
					t.Errorf("%s takes %s, but not with %s behind it", short(filter), short(name), short(level))
				}
			}
		}
	}
}

// P12.3: a filter whose last level is # takes what each filter takes that has other levels in its place: one as it is, or more.
func TestAllInPlaceOfLevels(t *testing.T) {
	for _, filter := range filters(texts("a$/+", 4)) {
		ahead := filter[:strings.LastIndex(filter, "/")+1]
		for _, name := range names(texts("a$/", 4)) {
			if ahead != "" && takes(t, filter, name) && !takes(t, ahead+"#", name) {
				t.Errorf("%s takes %s, but %s does not", short(filter), short(name), short(ahead+"#"))
			}
		}
	}
}
