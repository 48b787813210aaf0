package master_test

import (
	"math"
	"slices"
	"testing"

	"bascule/api"
)

// P7.3: with nothing out whatever comes is answered by ErrNone: ahead of a first request, while one waits, and when it is done.
func TestCameWithNothingOut(t *testing.T) {
	w := watch(t, 10, 0, 50)
	w.ignores(0, 1, seven...)
	w.asks(1, 1)
	w.ignores(0, 1, seven...)
	w.steps(0, 1, 0)
	w.answers(0, 1, 1)
	w.ignores(0, 1, seven...)
	w.ignores(0, 1)
	w.asks(2, 1)
	w.ignores(1, 1, seven...)
	w.steps(1, 2, 0)
	w.steps(11, 0, 2)
	w.ignores(11, 1, seven...)
	for _, unit := range []int{math.MinInt, -1, 0, 247, 248, math.MaxInt} {
		w.ignores(11, unit, seven...)
	}
}

// P7.3: of another unit, one that may not be among them, nothing is an answer, and the request stays out.
func TestCameOfAnotherUnit(t *testing.T) {
	for _, unit := range []int{0, 1, 17, 247} {
		w := watch(t, 10, 0, 50)
		w.asks(1, unit, unit)
		w.steps(0, 1, 0)
		for other := -2; other < 300; other++ {
			if other != unit {
				w.ignores(1, other, seven...)
				w.ignores(1, other, 0x83, 2)
			}
		}
		for _, other := range []int{math.MinInt, math.MaxInt, unit + 256, unit - 256, unit + 1<<32} {
			w.ignores(2, other, seven...)
		}
		w.steps(9, 0, 0)
		w.answers(9, unit, 1)
		w.steps(9, 2, 0)
	}
}

// P7.3: bytes that are no answer to the request that is out, and it stays out.
func TestCameWithNoAnswer(t *testing.T) {
	w := watch(t, 10, 0, 50)
	w.asks(1, 1)
	w.steps(0, 1, 0)
	for _, b := range [][]byte{
		nil, {}, {3}, {3, 2}, {3, 2, 0}, {3, 2, 0, 7, 0}, {3, 4, 0, 7, 0, 7}, {3, 1, 7}, {3, 0}, {4, 2, 0, 7}, {2, 2, 0, 7}, {0, 2, 0, 7},
		{0x83}, {0x83, 0}, {0x83, 2, 0}, {0x84, 2}, {0x80, 2}, {3, 0, 0, 0, 1}, make([]byte, 253), make([]byte, 1<<20),
	} {
		w.ignores(1, 1, b...)
	}
	w.answers(2, 1, 1)
}

// P7.3: what answers one request does not answer another: of every function, with what answers those of every function.
func TestCameWithAnswersToOthers(t *testing.T) {
	for k, r := range all() {
		for j, other := range all() {
			w := watch(t, 10, 0, 50)
			w.ask(3, r)
			w.steps(0, 1, 0)
			_, b := answerTo(t, other)
			done, e := w.came(1, 3, b...)
			if k == j && (len(done) != 1 || e != api.OK) {
				t.Errorf("%+v: %v, %d", r, done, e)
			}
			if r.Func != other.Func && (len(done) != 0 || e != api.ErrNone) {
				t.Errorf("%+v by %x: %v, %d", r, b, done, e)
			}
		}
	}
}

// P7.3: a refusal is an answer, of each code, to requests of every function, and its unit does not rest.
func TestRefusals(t *testing.T) {
	for _, r := range all() {
		for code := range 256 {
			w := watch(t, 10, 0, 50)
			w.ask(3, r)
			w.asks(2, 3)
			w.steps(0, 1, 0)
			done, e := w.came(1, 3, byte(r.Func)+128, byte(code))
			if code == 0 {
				if len(done) != 0 || e != api.ErrNone {
					t.Fatalf("%+v: %v, %d", r, done, e)
				}
				continue
			}
			if e != api.OK || len(done) != 1 || !sameDone(done[0], api.Done{Ticket: 1, Ans: api.Answer{Code: code}}) {
				t.Fatalf("%+v, refused with %d: %v, %d", r, code, done, e)
			}
			w.steps(1, 2, 0)
		}
	}
}

// P7.3: an answer at the tick of the Step that sent it, behind it and ahead of the Step that would send it again; at and behind that tick, too, if no Step came.
func TestWhenItCame(t *testing.T) {
	for _, now := range []int{5, 6, 14, 15, 16, 1000} {
		w := watch(t, 10, 0, 50)
		w.asks(1, 1, 1)
		w.steps(5, 1, 0)
		w.answers(now, 1, 1)
		w.steps(now, 2, 0)
	}
	w := watch(t, 10, 1, 50)
	w.asks(1, 1, 1)
	w.steps(5, 1, 0)
	w.steps(15, 1, 0)
	w.answers(15, 1, 1)
	w.steps(15, 2, 0)
}

// P7.3: Came sends nothing, and lets nothing be late: that is a Step's.
func TestCameSendsNothing(t *testing.T) {
	w := watch(t, 10, 0, 50)
	w.asks(1, 1, 2)
	w.ignores(3, 1, seven...)
	w.steps(3, 1, 0)
	w.ignores(500, 2, seven...)
	w.counts(2)
	w.answers(501, 1, 1)
	w.ignores(501, 2, seven...)
	w.counts(1)
	w.steps(501, 2, 0)
}

// P7.3: an answer that came too late is none while its unit rests; when the next request is out, it is held against that one.
func TestTooLate(t *testing.T) {
	w := watch(t, 10, 0, 50)
	w.asks(1, 1)
	if n, e := w.ask(1, api.Request{Func: 4, Count: 1}); n != 2 || e != api.OK {
		t.Fatalf("Ask: %d, %d", n, e)
	}
	w.asks(3, 1)
	w.steps(0, 1, 0)
	w.steps(10, 0, 1)
	w.ignores(10, 1, seven...)
	w.steps(60, 2, 0)
	w.ignores(60, 1, seven...)
	done, e := w.came(61, 1, 4, 2, 1, 2)
	if e != api.OK || len(done) != 1 || done[0].Ticket != 2 || !slices.Equal(done[0].Ans.Values, []int{258}) {
		t.Fatalf("%v, %d", done, e)
	}
	w.steps(61, 3, 0)
	w.answers(61, 1, 3)
}
