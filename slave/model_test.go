package slave_test

import (
	"math"
	"slices"
	"testing"

	"bascule/api"
	"bascule/slave"
)

// oddNumbers are beside the edges of all that is counted, and as far off as an int gets.
var oddNumbers = []int{math.MinInt, math.MinInt + 1, -65537, -65536, -2, -1, 0, 1, 2, 3, 254, 255, 256, 32767, 32768, 65534, 65535, 65536, 65537, 131071, 1 << 31, 1 << 32, math.MaxInt - 1, math.MaxInt}

// place is an address of a kind.
type place struct{ kind, addr int }

// model is a slave told otherwise: which addresses there are, and what those have that have not 0.
type model struct {
	bits, words int
	has         map[place]int
}

func newModel(bits, words int) *model {
	return &model{bits, words, map[place]int{}}
}

// there says whether a place is one of the model's.
func (m *model) there(p place) bool {
	switch p.kind {
	case 1, 2:
		return p.addr >= 0 && p.addr < m.bits
	case 3, 4:
		return p.addr >= 0 && p.addr < m.words
	}
	return false
}

// fits says whether a value is one of a kind.
func fits(kind, value int) bool {
	switch kind {
	case 1, 2:
		return value == 0 || value == 1
	case 3, 4:
		return value >= 0 && value < 65536
	}
	return false
}

// places are count ones, from an address on.
func places(kind, addr, count int) []place {
	var all []place
	for k := range count {
		all = append(all, place{kind, addr + k})
	}
	return all
}

// readPlaces are what a request that may be reads.
func readPlaces(r api.Request) []place {
	switch r.Func {
	case 1, 2, 3, 4:
		return places(r.Func, r.Addr, r.Count)
	case 23:
		return places(3, r.Addr, r.Count)
	}
	return nil
}

// writtenPlaces are what a request that may be writes.
func writtenPlaces(r api.Request) []place {
	switch r.Func {
	case 5:
		return places(1, r.Addr, 1)
	case 15:
		return places(1, r.Addr, r.Count)
	case 6, 22:
		return places(3, r.Addr, 1)
	case 16:
		return places(3, r.Addr, r.Count)
	case 23:
		return places(3, r.To, len(r.Values))
	}
	return nil
}

// maskedWord takes its bits one by one.
func maskedWord(word, and, or int) int {
	n := 0
	for bit := 1; bit < 65536; bit *= 2 {
		from := or
		if and/bit%2 == 1 {
			from = word
		}
		n += from / bit % 2 * bit
	}
	return n
}

// do answers what a request that may be comes to.
func (m *model) do(r api.Request) api.Answer {
	read, written := readPlaces(r), writtenPlaces(r)
	for _, p := range append(slices.Clone(read), written...) {
		if !m.there(p) {
			return api.Answer{Code: 2}
		}
	}
	for k, p := range written {
		if r.Func == 22 {
			m.has[p] = maskedWord(m.has[p], r.And, r.Or)
		} else {
			m.has[p] = r.Values[k]
		}
	}
	var a api.Answer
	for _, p := range read {
		a.Values = append(a.Values, m.has[p])
	}
	return a
}

// made answers a slave that is new.
func made(t *testing.T, bits, words int) *slave.Slave {
	t.Helper()
	s, e := slave.New(bits, words)
	if s == nil || e != api.OK {
		t.Fatalf("New(%d, %d): %v, %d", bits, words, s, e)
	}
	return s
}

// filled answers a slave no two addresses of which, one beside the other, have the same, and its model.
func filled(t *testing.T, bits, words int) (*slave.Slave, *model) {
	t.Helper()
	s, m := made(t, bits, words), newModel(bits, words)
	fill := func(kind, count int, value func(addr int) int) {
		for p := range count {
			m.has[place{kind, p}] = value(p)
			if e := s.Set(kind, p, value(p)); e != api.OK {
				t.Fatalf("Set(%d, %d, %d): %d", kind, p, value(p), e)
			}
		}
	}
	fill(1, bits, func(p int) int { return p % 2 })
	fill(2, bits, func(p int) int { return 1 - p%2 })
	fill(3, words, func(p int) int { return (p*40503 + 7) % 65536 })
	fill(4, words, func(p int) int { return (p*30011 + 65533) % 65536 })
	return s, m
}

// same says whether two answers are the same, lists without elements among them.
func same(a, b api.Answer) bool {
	return a.Code == b.Code && slices.Equal(a.Values, b.Values)
}

// holdAll holds what a slave has, and where that ends, against the model.
func holdAll(t *testing.T, s *slave.Slave, m *model) {
	t.Helper()
	for kind := 1; kind < 5; kind++ {
		size := m.bits
		if kind > 2 {
			size = m.words
		}
		for addr := range size {
			if n, e := s.Get(kind, addr); n != m.has[place{kind, addr}] || e != api.OK {
				t.Fatalf("Get(%d, %d): %d, %d, not %d", kind, addr, n, e, m.has[place{kind, addr}])
			}
		}
		if n, e := s.Get(kind, size); n != 0 || e != api.ErrArg {
			t.Fatalf("Get(%d, %d): %d, %d", kind, size, n, e)
		}
	}
}

// holdDo holds what a request that may be comes to against the model.
func holdDo(t *testing.T, s *slave.Slave, m *model, r api.Request) {
	t.Helper()
	want := m.do(r)
	if a, e := s.Do(r); !same(a, want) || e != api.OK {
		t.Fatalf("Do(%+v): %+v, %d, not %+v", r, a, e, want)
	}
}

// read, writeWords and so on are requests that may be.
func read(kind, addr, count int) api.Request {
	return api.Request{Func: kind, Addr: addr, Count: count}
}

func writeBit(addr, bit int) api.Request {
	return api.Request{Func: 5, Addr: addr, Values: []int{bit}}
}

func writeWord(addr, word int) api.Request {
	return api.Request{Func: 6, Addr: addr, Values: []int{word}}
}

func writeBits(addr int, bits ...int) api.Request {
	return api.Request{Func: 15, Addr: addr, Count: len(bits), Values: bits}
}

func writeWords(addr int, words ...int) api.Request {
	return api.Request{Func: 16, Addr: addr, Count: len(words), Values: words}
}

func mask(addr, and, or int) api.Request {
	return api.Request{Func: 22, Addr: addr, And: and, Or: or}
}

func swap(addr, count, to int, words ...int) api.Request {
	return api.Request{Func: 23, Addr: addr, Count: count, To: to, Values: words}
}

// bitsFor and wordsFor are values in which no two beside each other are the same.
func bitsFor(count int) []int {
	bits := make([]int, count)
	for k := range bits {
		bits[k] = (k + 1) % 2
	}
	return bits
}

func wordsFor(count int) []int {
	words := make([]int, count)
	for k := range words {
		words[k] = (65535 - 257*k%65536 + 65536) % 65536
	}
	return words
}
