package pdu_test

import (
	"bytes"
	"math/rand"
	"testing"

	"bascule/api"
	"bascule/pdu"
)

// P3.3: what is laid down is read as itself, and as no more than 253 bytes.
func TestRequestsComeBack(t *testing.T) {
	for _, r := range requests() {
		b, e := pdu.Bytes(r)
		if e != api.OK || len(b) > api.MaxPdu {
			t.Fatalf("%+v: %d bytes, %d", r, len(b), e)
		}
		if back, e := pdu.Parse(b); !sameRequest(back, r) || e != api.OK {
			t.Fatalf("%+v: %x: %+v, %d", r, b, back, e)
		}
	}
}

// P3.3: so are answers, with Values and with every Code.
func TestAnswersComeBack(t *testing.T) {
	for _, r := range requests() {
		answers := []api.Answer{{Values: valuesFor(r)}}
		for code := 1; code < 256; code++ {
			answers = append(answers, api.Answer{Code: code})
		}
		for _, a := range answers {
			b, e := pdu.AnswerBytes(r, a)
			if e != api.OK || len(b) > api.MaxPdu {
				t.Fatalf("%+v, %+v: %d bytes, %d", r, a, len(b), e)
			}
			if back, e := pdu.AnswerParse(r, b); !sameAnswer(back, a) || e != api.OK {
				t.Fatalf("%+v, %+v: %x: %+v, %d", r, a, b, back, e)
			}
		}
	}
}

// P3.3: every bit and every word comes back, of requests and of answers.
func TestEveryValueComesBack(t *testing.T) {
	for n := range api.MaxWord + 1 {
		for _, r := range []api.Request{
			{Func: 6, Addr: n, Values: []int{n}},
			{Func: 16, Count: 1, Values: []int{n}},
			{Func: 22, Addr: n, And: n, Or: api.MaxWord - n},
			{Func: 23, Addr: n, Count: 1, To: api.MaxWord - n, Values: []int{n}},
			{Func: 5, Addr: n, Values: []int{n % 2}},
			{Func: 15, Addr: n, Count: 1, Values: []int{n % 2}},
			{Func: 1 + n%4, Addr: n, Count: 1},
		} {
			b, e := pdu.Bytes(r)
			back, e2 := pdu.Parse(b)
			if !sameRequest(back, r) || e != api.OK || e2 != api.OK {
				t.Fatalf("%+v: %x, %d: %+v, %d", r, b, e, back, e2)
			}
		}
		r, a := api.Request{Func: 4, Addr: n, Count: 1}, api.Answer{Values: []int{n}}
		b, e := pdu.AnswerBytes(r, a)
		back, e2 := pdu.AnswerParse(r, b)
		if !sameAnswer(back, a) || e != api.OK || e2 != api.OK {
			t.Fatalf("%+v: %x, %d: %+v, %d", a, b, e, back, e2)
		}
	}
}

// P3.3: the longest requests and answers of each function.
func TestTheLongest(t *testing.T) {
	for _, r := range []api.Request{
		{Func: 15, Count: 1968, Values: oddBits(1968)},
		{Func: 16, Count: 123, Values: oddWords(123)},
		{Func: 23, Count: 125, Values: oddWords(121)},
	} {
		if b, e := pdu.Bytes(r); len(b) != 252 || e != api.OK {
			t.Errorf("the function %d: %d bytes, %d", r.Func, len(b), e)
		}
	}
	for _, r := range []api.Request{
		{Func: 1, Count: 2000}, {Func: 2, Count: 2000},
		{Func: 3, Count: 125}, {Func: 4, Count: 125}, {Func: 23, Count: 125, Values: oddWords(121)},
	} {
		if b, e := pdu.AnswerBytes(r, api.Answer{Values: valuesFor(r)}); len(b) != 252 || e != api.OK {
			t.Errorf("the function %d: %d bytes, %d", r.Func, len(b), e)
		}
	}
}

// P3.3: whatever bytes are read as a request, or as an answer, is laid down as the same bytes.
func TestBytesComeBack(t *testing.T) {
	chance := rand.New(rand.NewSource(3))
	some := requests()
	read := 0
	for range 40000 {
		r := some[chance.Intn(len(some))]
		b := wantBytes(t, r)
		answer := wantAnswerBytes(t, r, api.Answer{Values: valuesFor(r)})
		for range chance.Intn(3) {
			b[chance.Intn(len(b))] = byte(chance.Intn(256))
			answer[chance.Intn(len(answer))] ^= 1 << chance.Intn(8)
		}
		if back, e := pdu.Parse(b); e == api.OK {
			read++
			if again, e := pdu.Bytes(back); !bytes.Equal(again, b) || e != api.OK {
				t.Fatalf("%x: %+v: %x, %d", b, back, again, e)
			}
		}
		if a, e := pdu.AnswerParse(r, answer); e == api.OK {
			read++
			if again, e := pdu.AnswerBytes(r, a); !bytes.Equal(again, answer) || e != api.OK {
				t.Fatalf("%x: %+v: %x, %d", answer, a, again, e)
			}
		}
	}
	if read < 5000 {
		t.Errorf("only %d were read", read)
	}
}
