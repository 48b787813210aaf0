package slave_test

import (
	"math/rand"
	"slices"
	"testing"

	"bascule/api"
)

// P4.3: what is written, by each function that writes, is read, by each that reads that kind, and had by Get.
func TestWhatIsWrittenIsRead(t *testing.T) {
	s := made(t, 2100, 300)
	held := func(w, r api.Request, want []int) {
		t.Helper()
		if a, e := s.Do(w); a.Code != 0 || e != api.OK {
			t.Fatalf("Do(%+v): %+v, %d", w, a, e)
		}
		if a, e := s.Do(r); !same(a, api.Answer{Values: want}) || e != api.OK {
			t.Fatalf("Do(%+v): %+v, %d", r, a, e)
		}
		for k, n := range want {
			kind := r.Func
			if kind == 23 {
				kind = 3
			}
			if got, e := s.Get(kind, r.Addr+k); got != n || e != api.OK {
				t.Fatalf("Get(%d, %d): %d, %d, not %d", kind, r.Addr+k, got, e, n)
			}
		}
	}
	for _, addr := range []int{0, 1, 100} {
		held(writeBit(addr, 1), read(1, addr, 1), []int{1})
		held(writeBit(addr, 0), read(1, addr, 1), []int{0})
		for _, n := range []int{1, 2, 8, 9, 1967, 1968} {
			held(writeBits(addr, bitsFor(n)...), read(1, addr, n), bitsFor(n))
		}
		for _, n := range []int{1, 2, 120, 121} {
			held(swap(299, 1, addr, wordsFor(n)...), read(3, addr, n), wordsFor(n))
			held(writeWords(addr, wordsFor(n)...), swap(addr, n, 299, 3), wordsFor(n))
		}
		held(writeWords(addr, wordsFor(123)...), read(3, addr, 123), wordsFor(123))
		held(mask(addr, 0, 4660), read(3, addr, 1), []int{4660})
	}
	for word := range 65536 {
		held(writeWord(word%300, word), read(3, word%300, 1), []int{word})
	}
}

// P4.3: what is given by Set is read by the function of its kind.
func TestWhatIsSetIsRead(t *testing.T) {
	s, m := filled(t, 65536, 65536)
	for kind := 1; kind < 5; kind++ {
		for _, addr := range []int{0, 1, 1000, 65535} {
			want := 1 - m.has[place{kind, addr}]%2
			if e := s.Set(kind, addr, want); e != api.OK {
				t.Fatalf("Set(%d, %d, %d): %d", kind, addr, want, e)
			}
			if a, e := s.Do(read(kind, addr, 1)); !same(a, api.Answer{Values: []int{want}}) || e != api.OK {
				t.Fatalf("%d, %d: %+v, %d", kind, addr, a, e)
			}
		}
	}
}

// P4.3: a request that reads alone changes nothing, and answers the same again.
func TestReadingChangesNothing(t *testing.T) {
	s, m := filled(t, 40, 30)
	for kind := 1; kind < 5; kind++ {
		for addr := range 42 {
			for count := 1; count < 43; count++ {
				holdDo(t, s, m, read(kind, addr, count))
				holdDo(t, s, m, read(kind, addr, count))
			}
			holdAll(t, s, m)
		}
	}
}

// P4.3: a request that writes turns the addresses that it names, of its kind, and no other one.
func TestWritingTurnsNoOther(t *testing.T) {
	for _, r := range []api.Request{
		writeBit(0, 1), writeBit(5, 0), writeBit(39, 0), writeBits(0, 1, 0, 1), writeBits(37, 0, 1, 0), writeBits(7, bitsFor(20)...),
		writeWord(0, 1), writeWord(29, 2), writeWords(0, 1, 2, 3), writeWords(27, 4, 5, 6), writeWords(9, wordsFor(11)...),
		mask(0, 0, 1), mask(29, 0xff00, 0x00aa), mask(13, 0, 0),
		swap(0, 30, 0, 1), swap(0, 3, 29, 1), swap(0, 30, 10, wordsFor(9)...), swap(5, 5, 3, 1, 2, 3, 4, 5, 6),
	} {
		s, before := filled(t, 40, 30)
		holdDo(t, s, newFilledModel(before), r)
		named := writtenPlaces(r)
		for kind := 1; kind < 5; kind++ {
			for addr := range 40 {
				p := place{kind, addr}
				if !before.there(p) || slices.Contains(named, p) {
					continue
				}
				if n, e := s.Get(kind, addr); n != before.has[p] || e != api.OK {
					t.Errorf("%+v turned %v: %d, %d, not %d", r, p, n, e, before.has[p])
				}
			}
		}
	}
}

// newFilledModel answers a model that has what another one has, and turns by itself.
func newFilledModel(m *model) *model {
	other := newModel(m.bits, m.words)
	for p, n := range m.has {
		other.has[p] = n
	}
	return other
}

// anyRequest answers one that may be, at addresses up to a bit above top.
func anyRequest(chance *rand.Rand, top int) api.Request {
	addr, count := chance.Intn(top+3), 1+chance.Intn(6)
	values := make([]int, count)
	for k := range values {
		values[k] = chance.Intn(65536)
	}
	bits := make([]int, count)
	for k := range bits {
		bits[k] = values[k] % 2
	}
	switch f := []int{1, 2, 3, 4, 5, 6, 15, 16, 22, 23}[chance.Intn(10)]; f {
	case 5:
		return writeBit(addr, bits[0])
	case 6:
		return writeWord(addr, values[0])
	case 15:
		return writeBits(addr, bits...)
	case 16:
		return writeWords(addr, values...)
	case 22:
		return mask(addr, values[0], chance.Intn(65536))
	case 23:
		return swap(addr, 1+chance.Intn(6), chance.Intn(top+3), values...)
	default:
		return read(f, addr, count)
	}
}

// P4.1 to P4.3: long runs of requests and of Sets, with wrong ones between, against the model.
func TestLongRuns(t *testing.T) {
	chance := rand.New(rand.NewSource(4))
	wrong := wrongRequests()
	for range 60 {
		bits, words := chance.Intn(24), chance.Intn(24)
		s, m := made(t, bits, words), newModel(bits, words)
		for range 400 {
			switch chance.Intn(8) {
			case 0:
				p, value := place{chance.Intn(6), chance.Intn(26) - 1}, chance.Intn(3)-chance.Intn(2)*chance.Intn(2)
				want := api.ErrArg
				if m.there(p) && fits(p.kind, value) {
					want, m.has[p] = api.OK, value
				}
				if e := s.Set(p.kind, p.addr, value); e != want {
					t.Fatalf("Set(%d, %d, %d): %d", p.kind, p.addr, value, e)
				}
			case 1:
				if a, e := s.Do(wrong[chance.Intn(len(wrong))]); !same(a, api.Answer{}) || e != api.ErrArg {
					t.Fatalf("%+v, %d", a, e)
				}
			default:
				holdDo(t, s, m, anyRequest(chance, max(bits, words)))
			}
			holdAll(t, s, m)
		}
	}
}
