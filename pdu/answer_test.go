package pdu_test

import (
	"bytes"
	"slices"
	"testing"

	"bascule/api"
	"bascule/pdu"
)

// holdAnswer holds what AnswerBytes says of an answer against what may be.
func holdAnswer(t *testing.T, r api.Request, a api.Answer) {
	t.Helper()
	b, e := pdu.AnswerBytes(r, a)
	if !may(r) || !mayBeAnswered(r, a) {
		if e != api.ErrArg || len(b) != 0 {
			t.Fatalf("%+v, %+v: %x, %d", r, a, b, e)
		}
		return
	}
	if want := wantAnswerBytes(t, r, a); !bytes.Equal(b, want) || e != api.OK {
		t.Fatalf("%+v, %+v: %x, %d, not %x", r, a, b, e, want)
	}
}

// holdAnswerBytes holds what AnswerParse says of bytes against what they are as an answer to a request that may be.
func holdAnswerBytes(t *testing.T, r api.Request, b []byte) {
	t.Helper()
	want, ok := wantAnswer(r, b)
	a, e := pdu.AnswerParse(r, b)
	if ok && (e != api.OK || !sameAnswer(a, want)) || !ok && (e != api.ErrForm || !sameAnswer(a, api.Answer{})) {
		t.Fatalf("%+v, %x: %+v, %d, not %+v, %v", r, b, a, e, want, ok)
	}
}

// valuesFor are values that answer a request that may be.
func valuesFor(r api.Request) []int {
	switch r.Func {
	case 1, 2:
		return oddBits(r.Count)
	case 3, 4, 23:
		return oddWords(r.Count)
	}
	return nil
}

// P3.2: answers written out by hand, as bytes and back.
func TestAnswersByHand(t *testing.T) {
	for _, x := range []struct {
		r      api.Request
		a      api.Answer
		digits string
	}{
		{api.Request{Func: 1, Addr: 19, Count: 3}, api.Answer{Values: []int{1, 0, 1}}, "01 01 05"},
		{api.Request{Func: 1, Count: 8}, api.Answer{Values: []int{0, 0, 0, 0, 0, 0, 0, 1}}, "01 01 80"},
		{api.Request{Func: 2, Count: 9}, api.Answer{Values: []int{1, 0, 1, 1, 0, 0, 1, 1, 1}}, "02 02 cd01"},
		{api.Request{Func: 3, Addr: 16, Count: 2}, api.Answer{Values: []int{1, 2}}, "03 04 0001 0002"},
		{api.Request{Func: 3, Addr: 16, Count: 2}, api.Answer{Code: 2}, "83 02"},
		{api.Request{Func: 4, Addr: 65535, Count: 1}, api.Answer{Values: []int{65280}}, "04 02 ff00"},
		{api.Request{Func: 5, Addr: 172, Values: []int{1}}, api.Answer{}, "05 00ac ff00"},
		{api.Request{Func: 5, Addr: 172, Values: []int{0}}, api.Answer{}, "05 00ac 0000"},
		{api.Request{Func: 6, Addr: 1, Values: []int{3}}, api.Answer{}, "06 0001 0003"},
		{api.Request{Func: 15, Addr: 19, Count: 10, Values: make([]int, 10)}, api.Answer{}, "0f 0013 000a"},
		{api.Request{Func: 16, Addr: 1, Count: 2, Values: []int{10, 258}}, api.Answer{}, "10 0001 0002"},
		{api.Request{Func: 22, Addr: 4, And: 242, Or: 37}, api.Answer{}, "16 0004 00f2 0025"},
		{api.Request{Func: 23, Addr: 3, Count: 2, To: 14, Values: []int{255}}, api.Answer{Values: []int{254, 2765}}, "17 04 00fe 0acd"},
		{api.Request{Func: 23, Addr: 3, Count: 2, To: 14, Values: []int{255}}, api.Answer{Code: 255}, "97 ff"},
		{api.Request{Func: 22, Addr: 4}, api.Answer{Code: 1}, "96 01"},
	} {
		want := fromHex(t, x.digits)
		if b, e := pdu.AnswerBytes(x.r, x.a); !bytes.Equal(b, want) || e != api.OK {
			t.Errorf("%+v, %+v: %x, %d", x.r, x.a, b, e)
		}
		if a, e := pdu.AnswerParse(x.r, want); !sameAnswer(a, x.a) || e != api.OK {
			t.Errorf("%+v, %s: %+v, %d", x.r, x.digits, a, e)
		}
	}
}

// P3.2: answers with Values to requests of all functions up to their edges, one value too few, and one too many.
func TestAnswersUpToTheEdges(t *testing.T) {
	for _, r := range requests() {
		values := valuesFor(r)
		holdAnswer(t, r, api.Answer{Values: values})
		holdAnswer(t, r, api.Answer{})
		holdAnswer(t, r, api.Answer{Values: []int{}})
		holdAnswer(t, r, api.Answer{Values: []int{0}})
		holdAnswer(t, r, api.Answer{Values: append(slices.Clone(values), 0)})
		holdAnswer(t, r, api.Answer{Values: values[:max(0, len(values)-1)]})
		holdAnswer(t, r, api.Answer{Values: r.Values})
	}
}

// P3.2: Codes, alone and with Values, those that are no code among them.
func TestCodes(t *testing.T) {
	for _, r := range requests() {
		for code := -1; code < 258; code++ {
			holdAnswer(t, r, api.Answer{Code: code})
		}
		for _, code := range append([]int{127, 128, 254, 255, 256, 257}, oddNumbers...) {
			holdAnswer(t, r, api.Answer{Code: code})
			holdAnswer(t, r, api.Answer{Code: code, Values: []int{0}})
			holdAnswer(t, r, api.Answer{Code: code, Values: valuesFor(r)})
		}
	}
	r := api.Request{Func: 6, Addr: 1, Values: []int{3}}
	for code := -300; code < 700; code++ {
		holdAnswer(t, r, api.Answer{Code: code})
	}
}

// P3.2: one value of an answer that is no bit, or no word, wherever it stands.
func TestEachValueOfAnAnswer(t *testing.T) {
	for _, r := range []api.Request{
		{Func: 1, Count: 1}, {Func: 1, Count: 2000}, {Func: 2, Count: 17},
		{Func: 3, Count: 1}, {Func: 3, Count: 125}, {Func: 4, Count: 3},
		{Func: 23, Count: 125, Values: []int{0}},
	} {
		a := api.Answer{Values: make([]int, r.Count)}
		for k := range a.Values {
			for _, n := range oddNumbers {
				a.Values[k] = n
				holdAnswer(t, r, a)
			}
			a.Values[k] = 0
		}
	}
}

// P3.2 and R1: a request that may not be is refused first, whatever the answer or the bytes are.
func TestAnswerToNoRequest(t *testing.T) {
	for _, r := range []api.Request{
		{}, {Func: 7, Count: 1}, {Func: 131, Addr: 16, Count: 2}, {Func: 259, Addr: 16, Count: 2}, {Func: -3, Count: 1},
		{Func: 3, Addr: 16}, {Func: 3, Addr: 16, Count: 126}, {Func: 3, Addr: 65535, Count: 2}, {Func: 3, Addr: -1, Count: 2}, {Func: 3, Addr: 16, Count: 2, To: 1},
		{Func: 3, Addr: 16, Count: 2, Values: []int{1}}, {Func: 1, Count: 2001}, {Func: 5, Values: []int{2}}, {Func: 5}, {Func: 6, Values: []int{65536}}, {Func: 6, Values: []int{1, 2}},
		{Func: 15, Count: 1}, {Func: 15, Count: 1969, Values: make([]int, 1969)}, {Func: 16, Count: 2, Values: []int{1}}, {Func: 22, And: 65536}, {Func: 22, Or: -1}, {Func: 23, Count: 1}, {Func: 23, Values: []int{1}}, {Func: 23, Count: 2, To: 65536, Values: []int{1}},
	} {
		for _, digits := range []string{"", "03", "83 02", "83 00", "03 04 0001 0002", "01 01 01", "05 0000 ff00", "06 0000 0000", "10 0000 0002", "16 0000 0000 0000", "17 02 0001"} {
			if a, e := pdu.AnswerParse(r, fromHex(t, digits)); e != api.ErrArg || !sameAnswer(a, api.Answer{}) {
				t.Errorf("%+v, %s: %+v, %d", r, digits, a, e)
			}
		}
		for _, a := range []api.Answer{{}, {Code: 2}, {Code: 256}, {Values: []int{1}}, {Values: []int{1, 2}}, {Values: []int{-1}}, {Values: r.Values}} {
			holdAnswer(t, r, a)
		}
	}
}

// P3.2: bytes that are no answer, written out by hand.
func TestNoAnswer(t *testing.T) {
	bits, words := api.Request{Func: 1, Addr: 1, Count: 9}, api.Request{Func: 3, Addr: 16, Count: 2}
	bit, word := api.Request{Func: 5, Addr: 1, Values: []int{1}}, api.Request{Func: 6, Addr: 1, Values: []int{3}}
	manyBits, manyWords := api.Request{Func: 15, Addr: 2, Count: 9, Values: make([]int, 9)}, api.Request{Func: 16, Addr: 2, Count: 1, Values: []int{7}}
	mask, swap := api.Request{Func: 22, Addr: 4, And: 242, Or: 37}, api.Request{Func: 23, Addr: 3, Count: 1, To: 14, Values: []int{1, 2}}
	for _, x := range []struct {
		r      api.Request
		digits []string
	}{
		{bits, []string{"", "01", "01 02", "01 01 05", "01 02 05", "01 02 05 02", "01 02 05 81", "01 01 05 01", "01 03 05 01", "01 03 05 01 00", "01 02 05 01 00", "02 02 05 01", "81", "81 00", "81 01 00", "82 01", "01 0001 0009"}},
		{words, []string{"", "03", "03 04", "03 02 0001", "03 04 0001", "03 04 0001 00", "03 04 0001 0002 00", "03 06 0001 0002 0003", "03 06 0001 0002", "03 02 0001 0002", "03 05 0001 0002", "04 04 0001 0002", "83", "83 00", "83 02 00", "84 02", "03 02", "03 0010 0002"}},
		{bit, []string{"", "05", "05 0001", "05 0001 0000", "05 0001 0001", "05 0001 ff01", "05 0002 ff00", "05 0001 ff", "05 0001 ff00 00", "06 0001 ff00", "85", "85 00", "85 01 00", "86 01"}},
		{word, []string{"", "06", "06 0001", "06 0001 0002", "06 0000 0003", "06 0001 00", "06 0001 0003 00", "05 0001 0003", "86", "86 00", "86 02 00", "06 02 0003"}},
		{manyBits, []string{"", "0f", "0f 0002", "0f 0002 0008", "0f 0003 0009", "0f 0002 00", "0f 0002 0009 00", "0f 0002 0009 02 0000", "10 0002 0009", "8f", "8f 00", "8f 01 00"}},
		{manyWords, []string{"", "10", "10 0002", "10 0002 0002", "10 0001 0001", "10 0002 00", "10 0002 0001 00", "10 0002 0001 02 0007", "0f 0002 0001", "90", "90 00", "90 01 00"}},
		{mask, []string{"", "16", "16 0004", "16 0004 00f2", "16 0004 00f2 0024", "16 0004 00f3 0025", "16 0005 00f2 0025", "16 0004 00f2 00", "16 0004 00f2 0025 00", "17 0004 00f2 0025", "96", "96 00", "96 01 00"}},
		{swap, []string{"", "17", "17 02", "17 02 00", "17 04 0001 0002", "17 02 0001 00", "17 04 0001", "17 01 00", "16 02 0001", "97", "97 00", "97 01 00"}},
	} {
		for _, digits := range x.digits {
			b := fromHex(t, digits)
			if a, e := pdu.AnswerParse(x.r, b); e != api.ErrForm || !sameAnswer(a, api.Answer{}) {
				t.Errorf("%+v, %s: %+v, %d", x.r, digits, a, e)
			}
			holdAnswerBytes(t, x.r, b)
		}
		holdAnswerBytes(t, x.r, nil)
	}
}

// P3.2: the bytes of answers, cut anywhere, with more behind them, and with each byte turned into others.
func TestAnswerBytesTurned(t *testing.T) {
	for k, r := range requests() {
		if k%7 != 0 {
			continue
		}
		for _, a := range []api.Answer{{Values: valuesFor(r)}, {Code: 1 + k%255}} {
			b := wantAnswerBytes(t, r, a)
			for n := range len(b) + 1 {
				holdAnswerBytes(t, r, b[:n])
			}
			for n := range 6 {
				holdAnswerBytes(t, r, append(slices.Clone(b), make([]byte, n)...))
			}
			every := 1
			if len(b) > 60 {
				every = 53
			}
			for i := range b {
				for x := k % every; x < 256; x += every {
					turned := slices.Clone(b)
					turned[i] = byte(x)
					holdAnswerBytes(t, r, turned)
				}
			}
		}
	}
}

// P3.2: the bytes of an answer to one request as an answer to another.
func TestAnswersToOthers(t *testing.T) {
	some := requests()
	for k, r := range some {
		if k%11 != 0 {
			continue
		}
		b := wantAnswerBytes(t, r, api.Answer{Values: valuesFor(r)})
		for _, other := range some {
			holdAnswerBytes(t, other, b)
			holdAnswerBytes(t, other, []byte{byte(128 + r.Func), 2})
		}
	}
}

// P3.2: every number of bits with every bit above them.
func TestBitsAbove(t *testing.T) {
	for count := 1; count < 27; count++ {
		r := api.Request{Func: 1 + count%2, Count: count}
		size := (count + 7) / 8
		for bit := range 8 * size {
			b := append([]byte{byte(r.Func), byte(size)}, make([]byte, size)...)
			b[2+bit/8] = 1 << (bit % 8)
			holdAnswerBytes(t, r, b)
		}
	}
}

// P3.2: far more bytes than an answer may have, with a count of bytes that fits in part.
func TestTooManyAnswerBytes(t *testing.T) {
	for _, r := range []api.Request{{Func: 1, Count: 2000}, {Func: 3, Count: 125}, {Func: 6, Values: []int{0}}, {Func: 16, Count: 1, Values: []int{0}}, {Func: 23, Count: 125, Values: []int{0}}} {
		for _, size := range []int{251, 252, 253, 254, 255, 256, 257, 508, 1 << 16, 1 << 20} {
			b := make([]byte, size)
			b[0], b[1] = byte(r.Func), 250
			want := api.ErrForm
			if size == 252 && len(r.Values) == 0 || size == 252 && r.Func == 23 {
				want = api.OK
			}
			if a, e := pdu.AnswerParse(r, b); e != want || e != api.OK && !sameAnswer(a, api.Answer{}) {
				t.Errorf("%+v, %d bytes: %d values, %d", r, size, len(a.Values), e)
			}
		}
	}
}
