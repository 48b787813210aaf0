package slave_test

import (
	"slices"
	"testing"

	"bascule/api"
)

// roomy answers a list with room behind it, and the whole of it, that room among it.
func roomy(list []int, fill int) (l, whole []int) {
	whole = slices.Repeat([]int{fill}, len(list)+300)
	copy(whole, list)
	return whole[:len(list)], whole
}

// overwrite fills a list, and its room.
func overwrite(list []int, fill int) {
	list = list[:cap(list)]
	for k := range list {
		list[k] = fill
	}
}

// writing are requests with Values: done, refused by a Code, and such that may not be.
func writing() []api.Request {
	return []api.Request{
		writeBit(3, 1), writeWord(3, 9), writeBits(0, bitsFor(9)...), writeBits(2, 1), writeWords(0, wordsFor(20)...), writeWords(19, 5),
		swap(0, 20, 3, 7, 8), swap(3, 2, 3, 7, 8), swap(0, 5, 0, wordsFor(20)...),
		writeBit(9, 1), writeWord(20, 9), writeBits(8, 1, 0), writeWords(19, 1, 2), swap(0, 1, 19, 1, 2), swap(19, 2, 0, 1, 2),
		writeBits(0, 1, 2), writeWords(0, 1, 65536), swap(0, 1, 0, -1), {Func: 3, Count: 1, Values: []int{1}}, {Func: 99, Values: []int{1, 2}},
	}
}

// R2: the Values of a request, and their spare room, are not written into, by this request nor by later ones, and are not kept.
func TestValuesAreLeft(t *testing.T) {
	for _, r := range writing() {
		s, m := filled(t, 9, 20)
		want, e := api.Answer{}, api.ErrArg
		if slices.Contains([]int{5, 6, 15, 16, 23}, r.Func) && !slices.ContainsFunc(r.Values, func(n int) bool { return !fits(kindWritten(r), n) }) {
			want, e = m.do(r), api.OK
		}
		var whole []int
		r.Values, whole = roomy(r.Values, 1)
		kept := slices.Clone(whole)
		if a, got := s.Do(r); !same(a, want) || got != e {
			t.Fatalf("Do(%+v): %+v, %d, not %+v, %d", r, a, got, want, e)
		}
		for _, later := range []api.Request{writeBits(0, 0, 0, 0, 0, 0, 0, 0, 0, 0), writeWords(0, make([]int, 20)...), mask(3, 0, 77), read(3, 0, 20), swap(0, 20, 0, 6)} {
			s.Do(later)
			m.do(later)
		}
		if !slices.Equal(whole, kept) {
			t.Fatalf("%+v: wrote into Values", r)
		}
		overwrite(whole, 0)
		holdAll(t, s, m)
	}
}

// kindWritten is the kind that a request with Values writes.
func kindWritten(r api.Request) int {
	if r.Func == 5 || r.Func == 15 {
		return 1
	}
	return 3
}

// R2: what was written does not turn with the list that it came in.
func TestValuesAreNotKept(t *testing.T) {
	s, m := filled(t, 9, 20)
	for _, r := range []api.Request{writeBit(3, 0), writeWord(3, 9), writeBits(0, bitsFor(9)...), writeWords(0, wordsFor(20)...), swap(0, 20, 3, 7, 8), swap(0, 20, 0, wordsFor(20)...)} {
		want := m.do(r)
		r.Values, _ = roomy(r.Values, 1)
		a, e := s.Do(r)
		overwrite(r.Values, 54321)
		if !same(a, want) || e != api.OK {
			t.Fatalf("Do(%+v): %+v, %d", r, a, e)
		}
		holdAll(t, s, m)
	}
}

// R2: an answer's list is the caller's own: what is written into it, or into its room, turns no slave, and what a slave is told turns no answer.
func TestAnswersAreTheCallersOwn(t *testing.T) {
	s, m := filled(t, 9, 20)
	for _, r := range []api.Request{read(1, 0, 9), read(2, 0, 9), read(3, 0, 20), read(4, 0, 20), read(1, 3, 1), read(2, 8, 1), read(3, 0, 1), read(4, 19, 1), swap(0, 20, 4, 1, 2, 3), swap(4, 3, 4, 5, 6, 7), writeWords(0, 1, 2), writeBits(0, 1, 1), writeBit(0, 0), writeWord(0, 7), mask(0, 0, 1), read(3, 20, 1)} {
		want := m.do(r)
		a, e := s.Do(r)
		again, e2 := s.Do(r)
		if !same(a, want) || !same(again, want) || e != api.OK || e2 != api.OK {
			t.Fatalf("Do(%+v): %+v, %d, then %+v, %d, not %+v", r, a, e, again, e2, want)
		}
		overwrite(a.Values, 54321)
		if !same(again, want) {
			t.Fatalf("%+v: two answers share memory", r)
		}
		holdAll(t, s, m)
		for kind := 1; kind < 5; kind++ {
			for addr := range 9 {
				m.has[place{kind, addr}] ^= 1
				s.Set(kind, addr, m.has[place{kind, addr}])
			}
		}
		if !same(again, want) {
			t.Fatalf("%+v: an answer turned with its slave", r)
		}
		holdAll(t, s, m)
	}
}

// R2: slaves of the same size are apart.
func TestSlavesAreApart(t *testing.T) {
	one, other := made(t, 3, 3), made(t, 3, 3)
	for kind := 1; kind < 5; kind++ {
		one.Set(kind, 1, 1)
	}
	one.Do(writeWords(0, 4, 5, 6))
	one.Do(writeBits(0, 1, 1, 1))
	holdAll(t, other, newModel(3, 3))
}

// R2: the same calls answer the same, on another slave.
func TestSameCallsSameAnswers(t *testing.T) {
	one, _ := filled(t, 9, 20)
	other, _ := filled(t, 9, 20)
	for _, r := range append(writing(), read(1, 0, 9), read(3, 0, 20), mask(4, 1, 2), read(3, 4, 1)) {
		a, e := one.Do(r)
		b, e2 := other.Do(r)
		if !same(a, b) || e != e2 {
			t.Fatalf("Do(%+v): %+v, %d and %+v, %d", r, a, e, b, e2)
		}
	}
}
