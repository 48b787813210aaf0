package slave_test

import (
	"math"
	"testing"

	"bascule/api"
	"bascule/slave"
)

// P4.1: sizes from 0 to 65536, both edges among them, are taken: the rows have just so many addresses, all 0.
func TestNew(t *testing.T) {
	for _, x := range [][2]int{{0, 0}, {0, 1}, {1, 0}, {1, 1}, {2, 3}, {9, 3}, {3, 9}, {0, 65536}, {65536, 0}, {65535, 65536}, {65536, 65535}, {65536, 65536}, {2000, 125}} {
		holdAll(t, made(t, x[0], x[1]), newModel(x[0], x[1]))
	}
}

// P4.1: sizes below 0 and above 65536, of bits, of words, of both: no slave.
func TestNewRefuses(t *testing.T) {
	wrong := []int{math.MinInt, math.MinInt + 1, -65536, -2, -1, 65537, 65538, 131072, 1 << 32, math.MaxInt - 1, math.MaxInt}
	refused := func(bits, words int) {
		t.Helper()
		if s, e := slave.New(bits, words); s != nil || e != api.ErrArg {
			t.Errorf("New(%d, %d): %v, %d", bits, words, s, e)
		}
	}
	for _, n := range wrong {
		for _, good := range []int{0, 1, 65536} {
			refused(n, good)
			refused(good, n)
		}
		for _, other := range wrong {
			refused(n, other)
		}
	}
}

// P4.1: the first and the last address of each row take their values, the greatest among them, and no other row turns with them.
func TestSetAndGet(t *testing.T) {
	for _, x := range [][2]int{{1, 1}, {9, 3}, {65536, 65536}} {
		s, m := made(t, x[0], x[1]), newModel(x[0], x[1])
		for kind := 1; kind < 5; kind++ {
			last, values := x[0]-1, []int{1, 0, 1}
			if kind > 2 {
				last, values = x[1]-1, []int{1, 255, 256, 65535, 0, 32768 + kind}
			}
			for _, addr := range []int{0, last, last / 2} {
				for _, value := range values {
					if e := s.Set(kind, addr, value); e != api.OK {
						t.Fatalf("Set(%d, %d, %d): %d", kind, addr, value, e)
					}
					if n, e := s.Get(kind, addr); n != value || e != api.OK {
						t.Fatalf("Get(%d, %d): %d, %d, not %d", kind, addr, n, e, value)
					}
				}
				m.has[place{kind, addr}] = values[len(values)-1]
			}
			holdAll(t, s, m)
		}
	}
}

// P4.1: every word is had as itself, of both kinds of words; no bit is above 1.
func TestEveryValue(t *testing.T) {
	s := made(t, 1, 1)
	for kind := 1; kind < 5; kind++ {
		for value := -3; value < 65540; value++ {
			was, _ := s.Get(kind, 0)
			want, has := api.OK, value
			if !fits(kind, value) {
				want, has = api.ErrArg, was
			}
			if e := s.Set(kind, 0, value); e != want {
				t.Fatalf("Set(%d, 0, %d): %d", kind, value, e)
			}
			if n, e := s.Get(kind, 0); n != has || e != api.OK {
				t.Fatalf("Get(%d, 0): %d, %d, not %d", kind, n, e, has)
			}
		}
	}
}

// P4.1: kinds, addresses and values of all sorts, one beside the other, on slaves with and without bits and words: what is refused changes nothing.
func TestSetAndGetOfAllSorts(t *testing.T) {
	kinds := append([]int{4, 5, 6, 7, 8, -3, -4, -5}, oddNumbers...)
	for _, x := range [][2]int{{0, 0}, {0, 3}, {3, 0}, {2, 3}, {3, 2}, {300, 255}} {
		s, m := filled(t, x[0], x[1])
		for _, kind := range kinds {
			for _, addr := range append([]int{x[0] - 1, x[1] - 1, x[0], x[1]}, oddNumbers...) {
				p := place{kind, addr}
				for _, value := range oddNumbers {
					want := api.ErrArg
					if m.there(p) && fits(kind, value) {
						want, m.has[p] = api.OK, value
					}
					if e := s.Set(kind, addr, value); e != want {
						t.Fatalf("%v: Set(%d, %d, %d): %d", x, kind, addr, value, e)
					}
				}
				want := api.ErrArg
				if m.there(p) {
					want = api.OK
				}
				if n, e := s.Get(kind, addr); n != m.has[p] || e != want {
					t.Fatalf("%v: Get(%d, %d): %d, %d", x, kind, addr, n, e)
				}
			}
		}
		holdAll(t, s, m)
	}
}

// P4.1: a slave without bits has words, and one without words has bits.
func TestOneRowOnly(t *testing.T) {
	words, bits := made(t, 0, 1), made(t, 1, 0)
	for kind := 1; kind < 5; kind++ {
		ofBits, ofWords := api.OK, api.ErrArg
		if kind > 2 {
			ofBits, ofWords = api.ErrArg, api.OK
		}
		if e := bits.Set(kind, 0, 1); e != ofBits {
			t.Errorf("Set(%d, 0, 1) of bits: %d", kind, e)
		}
		if e := words.Set(kind, 0, 1); e != ofWords {
			t.Errorf("Set(%d, 0, 1) of words: %d", kind, e)
		}
	}
}

// P4.1: no slave, whatever it is handed.
func TestNil(t *testing.T) {
	var s *slave.Slave
	for _, r := range []api.Request{read(3, 0, 1), read(1, 0, 1), writeBit(0, 1), writeWord(0, 1), writeBits(0, 1), writeWords(0, 1), mask(0, 1, 1), swap(0, 1, 0, 1), read(3, 65535, 1), {}, {Func: 99, Count: -1}} {
		if a, e := s.Do(r); !same(a, api.Answer{}) || e != api.ErrNil {
			t.Errorf("Do(%+v): %+v, %d", r, a, e)
		}
	}
	for kind := 0; kind < 6; kind++ {
		for _, n := range oddNumbers {
			if e := s.Set(kind, 0, n); e != api.ErrNil {
				t.Errorf("Set(%d, 0, %d): %d", kind, n, e)
			}
			if got, e := s.Get(kind, n); got != 0 || e != api.ErrNil {
				t.Errorf("Get(%d, %d): %d, %d", kind, n, got, e)
			}
		}
	}
}
