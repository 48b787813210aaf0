package retain_test

import (
	"runtime"
	"slices"
	"strings"
	"testing"

	"bascule/api"
	"bascule/retain"
)

// filled answers a Kept that has some messages, and its model.
func filled(t *testing.T) (*retain.Kept, model) {
	t.Helper()
	k, m := retain.New(), model{}
	for n, name := range []string{"x", "a/b", "a", "$/a", "b", "a/b/c", "y"} {
		both(t, k, &m, kept(name, "of "+name, n%3))
	}
	both(t, k, &m, kept("y", "", 0))
	return k, m
}

// someNames and someFilters are what these tests ask for.
var (
	someNames   = []string{"a", "a/b", "a/b/c", "b", "x", "y", "z", "$/a"}
	someFilters = []string{"#", "a/#", "+", "x", "y", "$/+", "a#"}
)

// scrawl turns all elements of a list, and those in its room.
func scrawl(l []api.Message) {
	l = l[:cap(l)]
	for n := range l {
		l[n] = kept("z", "scrawled", 2)
	}
}

// R2: what is answered is the caller's own: it may be written on, and what is kept is what it was.
func TestAnswersAreTheCallers(t *testing.T) {
	k, m := filled(t)
	for _, filter := range someFilters {
		l, _ := k.Find(filter)
		scrawl(l)
		_ = append(l, kept("z", "behind", 1))
		holdAll(t, k, m, someNames, someFilters)
	}
	l := k.All()
	scrawl(l)
	_ = append(l, kept("z", "behind", 1))
	holdAll(t, k, m, someNames, someFilters)
}

// R2: what was answered stays as it was, whatever is put then, and written on other answers.
func TestAnswersStay(t *testing.T) {
	k, m := filled(t)
	found, _ := k.Find("a/#")
	every := k.All()
	wantFound, wantEvery := slices.Clone(found), slices.Clone(every)
	others, _ := k.Find("a/#")
	scrawl(others)
	scrawl(k.All())
	for _, name := range someNames {
		both(t, k, &m, kept(name, "new", 2))
	}
	for _, name := range someNames[:5] {
		both(t, k, &m, kept(name, "", 1))
	}
	holdAll(t, k, m, someNames, someFilters)
	if !slices.Equal(found, wantFound) || !slices.Equal(every, wantEvery) {
		t.Fatalf("%v, %v, not %v, %v", found, every, wantFound, wantEvery)
	}
}

// R2: what is answered hangs on nothing but the calls: asked again, and of another one that was told the same, it is the same.
func TestAnswersAgain(t *testing.T) {
	for range 50 {
		k, m := filled(t)
		for range 3 {
			holdAll(t, k, m, someNames, someFilters)
		}
	}
}

// R2, P14.1: asking and refusing turns nothing.
func TestAskingTurnsNothing(t *testing.T) {
	k, m := filled(t)
	for range 3 {
		nothing(t, k, "q", "#", "")
		k.Find("q")
		k.Find("q#")
		refuse(t, k, kept("q/+", "x", 1), api.ErrTopic)
		refuse(t, k, kept("q", "x", 3), api.ErrArg)
		refuse(t, k, kept("a", "", -1), api.ErrArg)
		put(t, k, passing("a", "x", 1))
		put(t, k, passing("a", "", 1))
		holdAll(t, k, m, append([]string{"q"}, someNames...), someFilters)
	}
}

// R2: two of them have nothing to do with each other, though the same names come to them.
func TestKeptAreApart(t *testing.T) {
	k, m := filled(t)
	other, otherM := filled(t)
	both(t, k, &m, kept("a", "", 0))
	holdAll(t, other, otherM, someNames, someFilters)
	both(t, other, &otherM, kept("b", "new", 1))
	both(t, other, &otherM, kept("z", "new", 1))
	holdAll(t, k, m, someNames, someFilters)
	holdAll(t, other, otherM, someNames, someFilters)
}

// inUse answers how many bytes are held on to.
func inUse() int {
	runtime.GC()
	var s runtime.MemStats
	runtime.ReadMemStats(&s)
	return int(s.HeapAlloc)
}

// P14.1: of a name's messages none but the last is held on to, and none behind an empty one.
func TestNoMoreIsHeld(t *testing.T) {
	const size, most = 1 << 20, 64
	k := retain.New()
	was := inUse()
	for n := range most {
		put(t, k, kept("a", strings.Repeat(string(rune('a'+n%26)), size), n%3))
	}
	if more := inUse() - was; more > 8*size {
		t.Errorf("%d bytes more are held behind one message of %d", more, size)
	}
	for n := range most {
		name := strings.Repeat("n", n+1)
		put(t, k, kept(name, strings.Repeat("x", size), 0))
		put(t, k, kept(name, "", 0))
	}
	put(t, k, kept("a", "", 0))
	if more := inUse() - was; more > 8*size {
		t.Errorf("%d bytes more are held behind none", more)
	}
	runtime.KeepAlive(k)
}
