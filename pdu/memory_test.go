package pdu_test

import (
	"bytes"
	"slices"
	"testing"

	"bascule/api"
	"bascule/pdu"
)

// roomy answers a list with room behind it, and the whole of it, that room among it.
func roomy[T any](list []T, fill T) (l, whole []T) {
	whole = slices.Repeat([]T{fill}, len(list)+300)
	copy(whole, list)
	return whole[:len(list)], whole
}

// overwrite fills a list, and its room.
func overwrite[T any](list []T, fill T) {
	list = list[:cap(list)]
	for k := range list {
		list[k] = fill
	}
}

// requestsOfAllSorts are some that may be, and others.
func requestsOfAllSorts() []api.Request {
	return append(requests(), api.Request{Func: 16, Count: 3, Values: []int{1, 2, 65536}}, api.Request{Func: 15, Count: 3, Values: []int{1, 0, 2}}, api.Request{Func: 7, Values: []int{1}}, api.Request{Func: 23, Count: 1, Values: []int{-1}}, api.Request{Func: 3, Count: 1, Values: []int{1}})
}

// R2: neither the Values of a request nor those of an answer, nor their spare room, are written into or kept.
func TestValuesAreLeft(t *testing.T) {
	for _, r := range requestsOfAllSorts() {
		var values, answers []int
		r.Values, values = roomy(r.Values, 1)
		keptValues := slices.Clone(values)
		a := api.Answer{}
		a.Values, answers = roomy(valuesFor(r), 1)
		keptAnswers := slices.Clone(answers)
		pdu.Check(r)
		b, _ := pdu.Bytes(r)
		kept := bytes.Clone(b)
		c, _ := pdu.AnswerBytes(r, a)
		keptAnswer := bytes.Clone(c)
		pdu.AnswerBytes(r, api.Answer{Code: 2, Values: a.Values})
		pdu.AnswerParse(r, c)
		pdu.AnswerParse(r, b)
		if !slices.Equal(values, keptValues) || !slices.Equal(answers, keptAnswers) {
			t.Fatalf("%+v: wrote into Values", r)
		}
		overwrite(values, 0)
		overwrite(answers, 0)
		if !bytes.Equal(b, kept) || !bytes.Equal(c, keptAnswer) {
			t.Fatalf("%+v: bytes that turn with Values", r)
		}
	}
}

// R2: bytes that are read, and their spare room, are not written into, and what was read does not turn with them.
func TestBytesAreLeft(t *testing.T) {
	for _, r := range requests() {
		b, whole := roomy(wantBytes(t, r), 0xee)
		answer, answerWhole := roomy(wantAnswerBytes(t, r, api.Answer{Values: valuesFor(r)}), 0xee)
		kept, keptAnswer := bytes.Clone(whole), bytes.Clone(answerWhole)
		back, _ := pdu.Parse(b)
		a, _ := pdu.AnswerParse(r, answer)
		pdu.Parse(answer)
		pdu.Parse(b[:len(b)-1])
		pdu.Parse(whole)
		pdu.AnswerParse(r, answer[:len(answer)-1])
		pdu.AnswerParse(r, answerWhole)
		if !bytes.Equal(whole, kept) || !bytes.Equal(answerWhole, keptAnswer) {
			t.Fatalf("%+v: wrote into the bytes", r)
		}
		overwrite(whole, 0x55)
		overwrite(answerWhole, 0x55)
		if !sameRequest(back, r) || !slices.Equal(a.Values, valuesFor(r)) {
			t.Fatalf("%+v: turned with the bytes: %+v, %+v", r, back, a)
		}
	}
}

// R2: the same call answers the same, whatever was called between, in memory of its own.
func TestSameCallSameAnswer(t *testing.T) {
	for _, r := range requests() {
		want, wantAnswer := wantBytes(t, r), wantAnswerBytes(t, r, api.Answer{Values: valuesFor(r)})
		for range 2 {
			b, _ := pdu.Bytes(r)
			c, _ := pdu.AnswerBytes(r, api.Answer{Values: valuesFor(r)})
			back, _ := pdu.Parse(want)
			a, _ := pdu.AnswerParse(r, wantAnswer)
			if !bytes.Equal(b, want) || !bytes.Equal(c, wantAnswer) || !sameRequest(back, r) || !slices.Equal(a.Values, valuesFor(r)) {
				t.Fatalf("%+v: %x, %x, %+v, %+v", r, b, c, back, a)
			}
			overwrite(b, 0x55)
			overwrite(c, 0x55)
			overwrite(back.Values, 9)
			overwrite(a.Values, 9)
		}
	}
}
