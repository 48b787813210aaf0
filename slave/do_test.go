package slave_test

import (
	"slices"
	"testing"

	"bascule/api"
	"bascule/pdu"
	"bascule/slave"
)

// step is a request, and what it comes to.
type step struct {
	r      api.Request
	code   int
	values []int
}

// hold holds steps against what a slave answers.
func hold(t *testing.T, s *slave.Slave, steps []step) {
	t.Helper()
	for _, x := range steps {
		if a, e := s.Do(x.r); a.Code != x.code || !slices.Equal(a.Values, x.values) || e != api.OK {
			t.Errorf("Do(%+v): %+v, %d, not %d, %v", x.r, a, e, x.code, x.values)
		}
	}
}

// P4.2: calls of each function, written out by hand.
func TestEachFunctionByHand(t *testing.T) {
	hold(t, made(t, 9, 3), []step{
		{writeWords(1, 1, 2), 0, nil},
		{read(3, 0, 3), 0, []int{0, 1, 2}},
		{read(3, 1, 1), 0, []int{1}},
		{read(3, 2, 2), 2, nil},
		{mask(1, 0, 7), 0, nil},
		{read(3, 0, 3), 0, []int{0, 7, 2}},
		{writeWord(0, 65535), 0, nil},
		{mask(0, 0x00f2, 0x0025), 0, nil},
		{read(3, 0, 2), 0, []int{0x00f7, 7}},
		{swap(0, 2, 1, 9, 8), 0, []int{0x00f7, 9}},
		{read(3, 0, 3), 0, []int{0x00f7, 9, 8}},
		{read(4, 0, 3), 0, []int{0, 0, 0}},
		{writeBits(6, 1, 0, 1), 0, nil},
		{writeBit(0, 1), 0, nil},
		{read(1, 0, 9), 0, []int{1, 0, 0, 0, 0, 0, 1, 0, 1}},
		{writeBit(0, 0), 0, nil},
		{read(1, 0, 7), 0, []int{0, 0, 0, 0, 0, 0, 1}},
		{read(2, 0, 9), 0, make([]int, 9)},
	})
}

// P4.2: functions 1 to 4 read the kind of their number, and no other one.
func TestReadsTheKindOfItsNumber(t *testing.T) {
	s := made(t, 4, 4)
	for kind := 1; kind < 5; kind++ {
		if e := s.Set(kind, kind-1, 1); e != api.OK {
			t.Fatalf("Set(%d, %d, 1): %d", kind, kind-1, e)
		}
	}
	hold(t, s, []step{
		{read(1, 0, 4), 0, []int{1, 0, 0, 0}},
		{read(2, 0, 4), 0, []int{0, 1, 0, 0}},
		{read(3, 0, 4), 0, []int{0, 0, 1, 0}},
		{read(4, 0, 4), 0, []int{0, 0, 0, 1}},
		{swap(0, 4, 0, 5), 0, []int{5, 0, 1, 0}},
	})
}

// P4.2: what DOC.md's first example says, as bytes.
func TestAsBytes(t *testing.T) {
	s := made(t, 0, 17)
	if e := s.Set(3, 16, 7); e != api.OK {
		t.Fatalf("Set: %d", e)
	}
	r, e := pdu.Parse([]byte{3, 0, 0x10, 0, 1})
	if e != api.OK {
		t.Fatalf("Parse: %d", e)
	}
	a, e := s.Do(r)
	if e != api.OK {
		t.Fatalf("Do: %d", e)
	}
	if b, e := pdu.AnswerBytes(r, a); !slices.Equal(b, []byte{3, 2, 0, 7}) || e != api.OK {
		t.Errorf("AnswerBytes: %x, %d", b, e)
	}
}

// around are the requests of each function, with as many values as counts say, from addr on; 23 reads and writes from there on.
func around(addr int, counts ...int) []api.Request {
	some := []api.Request{writeBit(addr, 0), writeBit(addr, 1), writeWord(addr, 0), writeWord(addr, 65535), writeWord(addr, 4660), mask(addr, 0, 65535), mask(addr, 0xf0f0, 0x3333)}
	for _, n := range counts {
		some = append(some, writeBits(addr, bitsFor(n)...), writeBits(addr, make([]int, n)...), writeWords(addr, wordsFor(n)...), swap(addr, n, addr, wordsFor(n)...))
		for kind := 1; kind < 5; kind++ {
			some = append(some, read(kind, addr, n))
		}
	}
	return slices.DeleteFunc(some, func(r api.Request) bool { return pdu.Check(r) != api.OK })
}

// P4.2: each function at each address of small slaves, of which some have no bits and some no words: inside, half inside, outside; what is refused changes nothing.
func TestAtEachAddress(t *testing.T) {
	for bits := range 5 {
		for words := range 5 {
			for addr := range 6 {
				for _, r := range around(addr, 1, 2, 3, 4, 5, 6) {
					s, m := filled(t, bits, words)
					holdDo(t, s, m, r)
					holdAll(t, s, m)
				}
			}
		}
	}
}

// P4.2: each function at the ends of great slaves, up to the last address that there can be, with as many values as may be.
func TestAtTheEnds(t *testing.T) {
	most := []int{1, 2, 121, 123, 125, 1968, 2000}
	for _, x := range [][2]int{{65536, 65536}, {65535, 65535}, {2000, 125}, {1968, 123}, {1967, 121}, {0, 65536}, {65536, 0}} {
		s, m := filled(t, x[0], x[1])
		for _, addr := range []int{0, 1, x[0] - 2000, x[0] - 1999, x[0] - 1968, x[0] - 1967, x[0] - 2, x[0] - 1, x[0], x[1] - 125, x[1] - 124, x[1] - 121, x[1] - 120, x[1] - 1, x[1], 65534, 65535} {
			for _, r := range around(addr, most...) {
				holdDo(t, s, m, r)
			}
		}
		holdAll(t, s, m)
	}
}

// P4.2: whole rows are read in pieces, each as it is.
func TestWholeRows(t *testing.T) {
	s, m := filled(t, 65536, 65536)
	for kind := 1; kind < 5; kind++ {
		piece := 2000
		if kind > 2 {
			piece = 125
		}
		for addr := 0; addr < 65536; addr += piece {
			holdDo(t, s, m, read(kind, addr, min(piece, 65536-addr)))
		}
	}
}

// P4.2: a request that lies half inside a row, by hand: Code 2, and what lies inside is as it was.
func TestHalfInside(t *testing.T) {
	s, m := filled(t, 9, 5)
	for _, r := range []api.Request{
		read(1, 8, 2), read(2, 0, 10), read(3, 4, 2), read(4, 0, 6), read(3, 4, 125), read(1, 8, 2000),
		writeBits(8, 0, 1), writeBits(0, 1, 1, 1, 1, 1, 1, 1, 1, 1, 1), writeWords(4, 1, 2), writeWords(0, 9, 8, 7, 6, 5, 4),
		swap(0, 6, 0, 77), swap(4, 2, 0, 77), swap(0, 1, 4, 77, 78), swap(0, 1, 0, 71, 72, 73, 74, 75, 76), swap(4, 2, 4, 77, 78),
	} {
		if a, e := s.Do(r); a.Code != 2 || len(a.Values) != 0 || e != api.OK {
			t.Errorf("Do(%+v): %+v, %d", r, a, e)
		}
		holdAll(t, s, m)
	}
}

// P4.2: 23 with one side that is there and one that is not: Code 2, and nothing is written.
func TestSwapWithOneSide(t *testing.T) {
	s, m := filled(t, 20, 5)
	for _, r := range []api.Request{swap(5, 1, 0, 9), swap(0, 1, 5, 9), swap(65535, 1, 0, 9), swap(0, 1, 65535, 9), swap(5, 1, 5, 9)} {
		if a, e := s.Do(r); a.Code != 2 || len(a.Values) != 0 || e != api.OK {
			t.Errorf("Do(%+v): %+v, %d", r, a, e)
		}
		holdAll(t, s, m)
	}
}

// P4.2: 23 writes ahead of reading, wherever the two lie: over one another, half over one another, apart.
func TestSwapOverOneAnother(t *testing.T) {
	s := made(t, 0, 4)
	hold(t, s, []step{
		{writeWords(0, 1, 2, 3, 4), 0, nil},
		{swap(0, 4, 0, 11, 12, 13, 14), 0, []int{11, 12, 13, 14}},
		{swap(0, 3, 1, 22, 23), 0, []int{11, 22, 23}},
		{swap(1, 3, 0, 31, 32), 0, []int{32, 23, 14}},
		{swap(0, 2, 2, 43, 44), 0, []int{31, 32}},
		{swap(3, 1, 3, 54), 0, []int{54}},
		{read(3, 0, 4), 0, []int{31, 32, 43, 54}},
	})
	for addr := range 7 {
		for count := 1; count < 8; count++ {
			for to := range 7 {
				for n := 1; n < 8; n++ {
					s, m := filled(t, 0, 6)
					holdDo(t, s, m, swap(addr, count, to, wordsFor(n)...))
					holdAll(t, s, m)
				}
			}
		}
	}
}

// P4.2: masks of all noughts, of all ones, of both, by hand and against bits taken one by one.
func TestMasks(t *testing.T) {
	s := made(t, 0, 1)
	for _, x := range [][4]int{
		{0x1234, 0, 0, 0}, {0x1234, 0, 0xffff, 0xffff}, {0x1234, 0, 0x5678, 0x5678},
		{0x1234, 0xffff, 0, 0x1234}, {0x1234, 0xffff, 0xffff, 0x1234}, {0x1234, 0xffff, 0x5678, 0x1234},
		{0x0012, 0x00f2, 0x0025, 0x0017}, {0xffff, 0xff00, 0, 0xff00}, {0, 0xff00, 0xffff, 0x00ff}, {0xabcd, 0x00ff, 0x1200, 0x12cd}, {0xabcd, 0x7fff, 0x8000, 0xabcd}, {0x8001, 0x8000, 0, 0x8000},
	} {
		s.Set(3, 0, x[0])
		if a, e := s.Do(mask(0, x[1], x[2])); !same(a, api.Answer{}) || e != api.OK {
			t.Errorf("%x: %+v, %d", x, a, e)
		}
		if n, e := s.Get(3, 0); n != x[3] || e != api.OK {
			t.Errorf("%x: %x, %d", x, n, e)
		}
	}
	some := []int{0, 1, 2, 0x00ff, 0x5555, 0x7fff, 0x8000, 0xaaaa, 0xf0f0, 0xff00, 0xfffe, 0xffff}
	for _, word := range some {
		for _, and := range some {
			for _, or := range some {
				s.Set(3, 0, word)
				s.Do(mask(0, and, or))
				if n, e := s.Get(3, 0); n != maskedWord(word, and, or) || e != api.OK {
					t.Fatalf("%x masked by %x, %x: %x, %d", word, and, or, n, e)
				}
			}
		}
	}
}

// P4.2: the bits of And are looked at each by itself: every And, with a word and an Or that are each other's contrary.
func TestEveryMask(t *testing.T) {
	s := made(t, 0, 1)
	for and := range 65536 {
		s.Set(3, 0, 65535)
		s.Do(mask(0, and, 0))
		if n, _ := s.Get(3, 0); n != and {
			t.Fatalf("And %x, Or 0: %x", and, n)
		}
		s.Set(3, 0, 0)
		s.Do(mask(0, and, 65535))
		if n, _ := s.Get(3, 0); n != 65535-and {
			t.Fatalf("And %x, Or ffff: %x", and, n)
		}
	}
}

// wrongRequests may not be; with what they miss, or without what they have too much, they would be done.
func wrongRequests() []api.Request {
	return []api.Request{
		{}, {Func: 0, Count: 1}, {Func: 7, Count: 1}, {Func: 8}, {Func: 14, Count: 1, Values: []int{1}}, {Func: 17}, {Func: 21, Count: 1}, {Func: 24, Count: 1, Values: []int{1}}, {Func: 131, Count: 1}, {Func: 259, Count: 1}, {Func: -3, Count: 1},
		read(1, 0, 0), read(2, 0, -1), read(1, 0, 2001), read(2, 0, 2001), read(3, 0, 126), read(4, 0, 126), read(3, -1, 1), read(4, -1, 2), read(3, 65536, 1), read(3, 65535, 2), read(1, 65535, 2),
		{Func: 3, Count: 1, Values: []int{1}}, {Func: 3, Count: 1, To: 1}, {Func: 3, Count: 1, And: 1}, {Func: 3, Count: 1, Or: 1}, {Func: 1, Count: 1, Values: []int{0}},
		writeBit(0, 2), writeBit(0, -1), writeBit(0, 0xff00), writeBit(-1, 1), writeBit(65536, 1), {Func: 5}, {Func: 5, Values: []int{1, 1}}, {Func: 5, Count: 1, Values: []int{1}}, {Func: 5, Values: []int{1}, To: 1},
		writeWord(0, 65536), writeWord(0, -1), writeWord(-1, 1), writeWord(65536, 1), {Func: 6}, {Func: 6, Values: []int{1, 1}}, {Func: 6, Count: 1, Values: []int{1}}, {Func: 6, Values: []int{1}, Or: 1},
		writeBits(0), writeBits(0, 1, 2), writeBits(0, 0, 1, -1), writeBits(-1, 1), writeBits(65535, 1, 1), {Func: 15, Count: 1, Values: []int{1, 1}}, {Func: 15, Count: 2, Values: []int{1}}, {Func: 15, Values: []int{1}}, writeBits(0, make([]int, 1969)...), {Func: 15, Count: 1, Values: []int{1}, To: 1},
		writeWords(0), writeWords(0, 1, 65536), writeWords(0, 5, 6, -1), writeWords(-1, 1), writeWords(65535, 1, 1), {Func: 16, Count: 1, Values: []int{5, 6}}, {Func: 16, Count: 2, Values: []int{5}}, {Func: 16, Values: []int{5}}, writeWords(0, make([]int, 124)...), {Func: 16, Count: 1, Values: []int{5}, And: 1},
		mask(0, 65536, 0), mask(0, -1, 0), mask(0, 0, 65536), mask(0, 0, -1), mask(-1, 0, 9), mask(65536, 0, 9), {Func: 22, Count: 1, Or: 9}, {Func: 22, Or: 9, Values: []int{1}}, {Func: 22, Or: 9, To: 1},
		swap(0, 0, 0, 9), swap(0, 126, 0, 9), swap(0, 1, 0), swap(0, 1, 0, 65536), swap(0, 1, 0, 9, -1), swap(-1, 1, 0, 9), swap(0, 1, -1, 9), swap(65536, 1, 0, 9), swap(0, 1, 65536, 9), swap(65535, 2, 0, 9), swap(0, 1, 65535, 9, 9), swap(0, 1, 0, make([]int, 122)...), {Func: 23, Count: 1, Values: []int{9}, And: 1}, {Func: 23, Count: 1, Values: []int{9}, Or: 1},
	}
}

// P4.2: a request that may not be is refused, whatever addresses it names, and changes nothing.
func TestWrongRequests(t *testing.T) {
	for _, x := range [][2]int{{0, 0}, {3, 2}, {2000, 200}, {65536, 65536}} {
		s, m := filled(t, x[0], x[1])
		for _, r := range wrongRequests() {
			if a, e := s.Do(r); !same(a, api.Answer{}) || e != api.ErrArg {
				t.Errorf("%v: Do(%+v): %+v, %d", x, r, a, e)
			}
			if x[0] < 100 {
				holdAll(t, s, m)
			}
		}
		holdAll(t, s, m)
	}
}

// P4.2: each number of a request as far off as an int gets.
func TestNumbersOfAllSorts(t *testing.T) {
	s, m := filled(t, 3, 3)
	for _, good := range []api.Request{read(1, 0, 1), read(2, 0, 1), read(3, 0, 1), read(4, 0, 1), writeBit(0, 0), writeWord(0, 5), writeBits(0, 0), writeWords(0, 5), mask(0, 1, 2), swap(0, 1, 0, 5)} {
		for field := range 7 {
			for _, n := range oddNumbers {
				r := good
				r.Values = slices.Clone(good.Values)
				fields := []*int{&r.Func, &r.Addr, &r.Count, &r.To, &r.And, &r.Or}
				if len(r.Values) > 0 {
					fields = append(fields, &r.Values[0])
				}
				if field >= len(fields) {
					continue
				}
				*fields[field] = n
				if pdu.Check(r) == api.OK {
					holdDo(t, s, m, r)
				} else if a, e := s.Do(r); !same(a, api.Answer{}) || e != api.ErrArg {
					t.Fatalf("Do(%+v): %+v, %d", r, a, e)
				}
				holdAll(t, s, m)
			}
		}
	}
}
