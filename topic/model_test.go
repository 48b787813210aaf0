package topic_test

import (
	"math/rand"
	"regexp"
	"strconv"
	"strings"
	"testing"
	"unicode/utf8"

	"bascule/api"
	"bascule/topic"
)

// short answers a text as a failure tells it: a long one by its beginning and its length.
func short(s string) string {
	if len(s) > 40 {
		return strconv.Quote(s[:40]) + ".. of " + strconv.Itoa(len(s)) + " bytes"
	}
	return strconv.Quote(s)
}

// modelString says whether s is a string, by the library's own reading of it.
func modelString(s string) bool {
	return len(s) <= 65535 && utf8.ValidString(s) && !strings.Contains(s, "\x00")
}

// modelName says whether s is a name.
func modelName(s string) bool {
	return modelString(s) && regexp.MustCompile(`\A[^+#]+\z`).MatchString(s)
}

// modelFilter says whether s is a filter: each level is + or has no sign, but the last may be #.
func modelFilter(s string) bool {
	return modelString(s) && s != "" && regexp.MustCompile(`\A((\+|[^+#/]*)/)*(\+|#|[^+#/]*)\z`).MatchString(s)
}

// modelTakes is a filter as an expression of names: what # takes is cut off with the slash ahead of it.
func modelTakes(filter string) *regexp.Regexp {
	ahead, all := strings.CutSuffix(filter, "#")
	if ahead == "" {
		return regexp.MustCompile(`(?s)\A([^$].*)?\z`)
	}
	if all {
		ahead = strings.TrimSuffix(ahead, "/")
	}
	form := strings.ReplaceAll(regexp.QuoteMeta(ahead), `\+`, `[^/]*`)
	if strings.HasPrefix(filter, "+") {
		form = `([^$/][^/]*)?` + strings.TrimPrefix(form, `[^/]*`)
	}
	if all {
		form += `(/.*)?`
	}
	return regexp.MustCompile(`(?s)\A` + form + `\z`)
}

// texts answers all texts of at most so many of the signs.
func texts(signs string, most int) []string {
	all, last := []string{""}, []string{""}
	for range most {
		var next []string
		for _, s := range last {
			for _, sign := range signs {
				next = append(next, s+string(sign))
			}
		}
		all, last = append(all, next...), next
	}
	return all
}

// holdModel holds a filter against each of the names.
func holdModel(t *testing.T, filter string, names []string) {
	t.Helper()
	isFilter := modelFilter(filter)
	var takes *regexp.Regexp
	if isFilter {
		takes = modelTakes(filter)
	}
	for _, name := range names {
		want, wantE := false, api.OK
		switch {
		case !isFilter:
			wantE = api.ErrFilter
		case !modelName(name):
			wantE = api.ErrTopic
		default:
			want = takes.MatchString(name)
		}
		if is, e := topic.Matches(filter, name); is != want || e != wantE {
			t.Fatalf("Matches(%s, %s): %v, %d, not %v, %d", short(filter), short(name), is, e, want, wantE)
		}
	}
}

// P12.1: all short texts, and which of them are names and filters.
func TestTextsAsTheModel(t *testing.T) {
	for _, s := range texts("a$/+#\x00", 6) {
		name, filter := api.ErrTopic, api.ErrFilter
		if modelName(s) {
			name = api.OK
		}
		if modelFilter(s) {
			filter = api.OK
		}
		holdText(t, s, name, filter)
	}
}

// P12.2: all short filters, with all short names.
func TestPairsAsTheModel(t *testing.T) {
	var names []string
	for _, s := range texts("ab$/", 4) {
		if modelName(s) {
			names = append(names, s)
		}
	}
	for _, filter := range texts("a$/+#", 5) {
		if modelFilter(filter) {
			holdModel(t, filter, names)
		}
	}
}

// P12.2: all texts of a few signs with one another, names or filters or neither.
func TestErrorsAsTheModel(t *testing.T) {
	all := texts("a$/+#\xff", 3)
	for _, filter := range all {
		holdModel(t, filter, all)
	}
}

// P12.2: longer ones at random, of levels that are often alike.
func TestLongAsTheModel(t *testing.T) {
	random := rand.New(rand.NewSource(12))
	of := func(levels []string, most int) string {
		var out []string
		for range 1 + random.Intn(most) {
			out = append(out, levels[random.Intn(len(levels))])
		}
		return strings.Join(out, "/")
	}
	for range 3000 {
		filter := of([]string{"a", "b", "", "+", "+", "$", "ä€"}, 6)
		if random.Intn(2) == 0 {
			filter += "/#"
		}
		var names []string
		for range 20 {
			names = append(names, of([]string{"a", "b", "", "$", "ä€"}, 8), strings.NewReplacer("+", of([]string{"a", "", "$"}, 1), "#", of([]string{"a", "b"}, 3)).Replace(filter))
		}
		holdModel(t, filter, names)
	}
}
