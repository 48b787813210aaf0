package master_test

import (
	"math"
	"testing"

	"bascule/api"
	"bascule/master"
	"bascule/pdu"
)

// many answers n values from 0 to top, not all the same.
func many(n, top int) []int {
	values := make([]int, n)
	for k := range values {
		values[k] = (k*40503 + k/3 + top) % (top + 1)
	}
	return values
}

// all are requests of every function, the smallest and the greatest.
func all() []api.Request {
	return []api.Request{
		{Func: 1, Addr: 9, Count: 1}, {Func: 1, Addr: 63536, Count: 2000},
		{Func: 2, Addr: 65535, Count: 1}, {Func: 2, Count: 2000},
		{Func: 3, Addr: 16, Count: 2}, {Func: 3, Count: 125},
		{Func: 4, Addr: 1, Count: 1}, {Func: 4, Addr: 65411, Count: 125},
		{Func: 5, Addr: 7, Values: []int{0}}, {Func: 5, Addr: 65535, Values: []int{1}},
		{Func: 6, Values: []int{0}}, {Func: 6, Addr: 65535, Values: []int{65535}},
		{Func: 15, Addr: 2, Count: 1, Values: []int{1}}, {Func: 15, Count: 1968, Values: many(1968, 1)},
		{Func: 16, Addr: 3, Count: 1, Values: []int{258}}, {Func: 16, Addr: 65413, Count: 123, Values: many(123, 65535)},
		{Func: 22, Addr: 4}, {Func: 22, Addr: 65535, And: 65535, Or: 65535},
		{Func: 23, Addr: 1, Count: 1, To: 2, Values: []int{3}}, {Func: 23, Count: 125, To: 65415, Values: many(121, 65535)},
	}
}

// none are requests that may not be.
func none() []api.Request {
	return []api.Request{
		{}, {Func: 0, Count: 1}, {Func: 7, Count: 1}, {Func: -3, Count: 1}, {Func: 131, Count: 1}, {Func: 259, Count: 1},
		{Func: 3}, {Func: 3, Count: -1}, {Func: 3, Count: 126}, {Func: 3, Addr: 65535, Count: 2}, {Func: 3, Addr: -1, Count: 1}, {Func: 3, Addr: math.MaxInt, Count: 1}, {Func: 3, Count: math.MaxInt},
		{Func: 3, Count: 1, To: 1}, {Func: 3, Count: 1, And: 1}, {Func: 3, Count: 1, Or: 1}, {Func: 3, Count: 1, Values: []int{0}},
		{Func: 1, Count: 2001}, {Func: 5}, {Func: 5, Values: []int{2}}, {Func: 5, Values: []int{1, 1}}, {Func: 6, Values: []int{65536}}, {Func: 6, Values: []int{-1}},
		{Func: 15, Count: 1969, Values: make([]int, 1969)}, {Func: 15, Count: 1}, {Func: 16, Count: 2, Values: []int{1}}, {Func: 16, Count: 124, Values: make([]int, 124)},
		{Func: 22, And: 65536}, {Func: 22, Or: -1}, {Func: 23, Count: 1}, {Func: 23, Values: []int{1}}, {Func: 23, Count: 1, Values: make([]int, 122)},
	}
}

// answerTo answers an answer to a request, and its bytes.
func answerTo(t *testing.T, r api.Request) (api.Answer, []byte) {
	t.Helper()
	var a api.Answer
	switch r.Func {
	case 1, 2:
		a.Values = many(r.Count, 1)
	case 3, 4, 23:
		a.Values = many(r.Count, 65535)
	}
	b, e := pdu.AnswerBytes(r, a)
	if e != api.OK {
		t.Fatalf("AnswerBytes(%+v): %d", r, e)
	}
	return a, b
}

// The chapter's examples, one behind the other.
func TestExamples(t *testing.T) {
	w := watch(t, 10, 1, 50)
	w.asks(1, 1)
	w.steps(0, 1, 0)
	w.answers(3, 1, 1)
	w.asks(2, 1)
	w.steps(20, 2, 0)
	w.steps(29, 0, 0)
	w.steps(30, 2, 0)
	w.steps(40, 0, 2)
	w.asks(3, 1, 2)
	w.steps(41, 4, 0)
	w.steps(90, 4, 0)
	w.steps(99, 0, 0)
	w.steps(100, 3, 4)
}

// P7.1: a master of each edge was asked nothing: it has nothing to send, and takes the first request as it comes.
func TestNew(t *testing.T) {
	for _, wait := range []int{1, 2, 10, math.MaxInt} {
		for _, again := range []int{0, 1, 15, 16} {
			for _, rest := range []int{0, 1, 50, math.MaxInt} {
				w := watch(t, wait, again, rest)
				w.steps(0, 0, 0)
				w.ignores(0, 0, seven...)
				w.asks(1, 247)
				w.steps(0, 1, 0)
			}
		}
	}
}

// P7.1: a wait below 1, an again that is not 0 to 16, a rest below 0, alone and together, are refused, and there is no master.
func TestNewRefuses(t *testing.T) {
	waits := []int{0, -1, -10, math.MinInt, 1, 10}
	agains := []int{-1, -16, 17, 18, 32, math.MinInt, math.MaxInt, 0, 16}
	rests := []int{-1, -50, math.MinInt, 0, 50}
	for _, wait := range waits {
		for _, again := range agains {
			for _, rest := range rests {
				good := wait >= 1 && again >= 0 && again <= 16 && rest >= 0
				m, e := master.New(wait, again, rest)
				if good != (m != nil) || good != (e == api.OK) || !good && e != api.ErrArg {
					t.Errorf("New(%d, %d, %d): %v, %d", wait, again, rest, m, e)
				}
			}
		}
	}
}

// P7.1: units from 0 to 247 are asked, and no others, and what is refused takes no ticket.
func TestUnits(t *testing.T) {
	w, now := watch(t, 1, 0, 0), 0
	for unit := range 248 {
		w.asks(unit+1, unit)
		for _, wrong := range []int{-1, 248, -1 - unit, 248 + unit, unit - 256, unit + 256, unit + 1<<32, math.MinInt, math.MaxInt} {
			w.refuses(wrong, read, api.ErrArg)
			w.refuses(wrong, api.Request{}, api.ErrArg)
		}
		w.steps(now, unit+1, 0)
		w.answers(now, unit, unit+1)
		now++
	}
}

// P7.1, P7.2 and P7.3: requests of every function are sent as they were asked, and done with their answers.
func TestEveryFunction(t *testing.T) {
	for _, r := range all() {
		w := watch(t, 5, 1, 5)
		if n, e := w.ask(17, r); n != 1 || e != api.OK {
			t.Fatalf("Ask(%+v): %d, %d", r, n, e)
		}
		for _, now := range []int{3, 8} {
			sends, _, _ := w.step(now)
			if len(sends) != 1 || !sameSend(sends[0], api.Send{Ticket: 1, Unit: 17, Req: r}) {
				t.Fatalf("%+v is sent as %+v", r, sends)
			}
		}
		a, b := answerTo(t, r)
		done, e := w.came(9, 17, b...)
		if e != api.OK || len(done) != 1 || !sameDone(done[0], api.Done{Ticket: 1, Ans: a}) {
			t.Fatalf("%+v is done with %+v, %d", r, done, e)
		}
		w.counts(0)
	}
}

// P7.1: a request that may not be is refused, whatever the unit is, takes no ticket, and is not sent.
func TestNoRequest(t *testing.T) {
	w := watch(t, 10, 1, 50)
	for _, unit := range []int{-1, 0, 1, 247, 248} {
		for _, r := range none() {
			w.refuses(unit, r, api.ErrArg)
		}
	}
	w.steps(0, 0, 0)
	w.asks(1, 1)
	w.refuses(1, api.Request{Func: 3}, api.ErrArg)
	w.asks(2, 1)
	w.steps(0, 1, 0)
	w.answers(0, 1, 1)
	w.steps(0, 2, 0)
}

// P7.1: 64 wait, and one more is refused, with nothing out and with one out; one that is sent makes room; wrong ones are named first.
func TestFull(t *testing.T) {
	w := watch(t, 10, 1, 50)
	for k := range 63 {
		w.asks(1+k, k%3)
	}
	w.asks(64, 9)
	w.refuses(9, read, api.ErrFull)
	w.refuses(248, read, api.ErrArg)
	w.refuses(9, api.Request{Func: 9}, api.ErrArg)
	w.counts(64)
	w.steps(0, 1, 0)
	w.counts(64)
	w.asks(65, 9)
	w.counts(65)
	w.refuses(9, read, api.ErrFull)
	w.steps(9, 0, 0)
	w.refuses(9, read, api.ErrFull)
	w.steps(10, 1, 0)
	w.refuses(9, read, api.ErrFull)
	w.answers(10, 0, 1)
	w.counts(64)
	w.refuses(9, read, api.ErrFull)
	w.steps(10, 2, 0)
	w.asks(66, 9)
	w.refuses(9, read, api.ErrFull)
	for ticket := 2; ticket <= 66; ticket++ {
		unit := (ticket - 1) % 3
		if ticket >= 64 {
			unit = 9
		}
		w.answers(11, unit, ticket)
		w.counts(66 - ticket)
		if ticket < 66 {
			w.steps(11, ticket+1, 0)
		}
	}
	w.asks(67, 0)
}

// P7.1: while all that wait rest, 64 of them wait, and no more.
func TestFullOfResting(t *testing.T) {
	w := watch(t, 1, 0, 100)
	w.asks(1, 5)
	w.steps(0, 1, 0)
	w.steps(1, 0, 1)
	for k := range 64 {
		w.asks(2+k, 5)
		w.steps(2, 0, 0)
	}
	w.refuses(5, read, api.ErrFull)
	w.refuses(6, read, api.ErrFull)
	w.steps(100, 0, 0)
	w.refuses(6, read, api.ErrFull)
	w.steps(101, 2, 0)
	w.asks(66, 6)
	w.refuses(6, read, api.ErrFull)
}

// P7.1: Count ahead of, within and behind asking, sending, sending again, being late and being answered.
func TestCount(t *testing.T) {
	w := watch(t, 10, 1, 50)
	w.steps(0, 0, 0)
	w.counts(0)
	w.asks(1, 1, 1, 2)
	w.counts(3)
	w.refuses(248, read, api.ErrArg)
	w.counts(3)
	w.steps(1, 1, 0)
	w.counts(3)
	w.ignores(2, 2, seven...)
	w.counts(3)
	w.steps(11, 1, 0)
	w.counts(3)
	w.steps(21, 3, 1)
	w.counts(2)
	w.answers(22, 2, 3)
	w.counts(1)
	w.steps(70, 0, 0)
	w.counts(1)
	w.steps(71, 2, 0)
	w.counts(1)
	w.fell(70, 1)
	w.counts(1)
	w.answers(71, 1, 2)
	w.counts(0)
}

// P7.1: a Master that is nil answers ErrNil, whatever it is handed, and 0.
func TestNilMaster(t *testing.T) {
	var m *master.Master
	for _, n := range []int{math.MinInt, -1, 0, 1, 247, 248, math.MaxInt} {
		for _, r := range append(all(), none()...) {
			if ticket, e := m.Ask(n, r); ticket != 0 || e != api.ErrNil {
				t.Errorf("Ask(%d, %+v): %d, %d", n, r, ticket, e)
			}
		}
		if sends, done, e := m.Step(n); len(sends)+len(done) != 0 || e != api.ErrNil {
			t.Errorf("Step(%d): %v, %v, %d", n, sends, done, e)
		}
		for _, b := range [][]byte{nil, {}, seven, {0x83, 2}} {
			for _, now := range []int{-1, 0, 5} {
				if done, e := m.Came(now, n, b); len(done) != 0 || e != api.ErrNil {
					t.Errorf("Came(%d, %d, %x): %v, %d", now, n, b, done, e)
				}
			}
		}
	}
	if n := m.Count(); n != 0 {
		t.Errorf("Count: %d", n)
	}
}

// R2: masters are apart: what one is asked, and what rests there, turns no other.
func TestMastersAreApart(t *testing.T) {
	one, other := watch(t, 1, 0, 50), watch(t, 10, 1, 0)
	one.asks(1, 1, 1)
	other.asks(1, 1)
	one.steps(7, 1, 0)
	one.steps(8, 0, 1)
	other.steps(3, 1, 0)
	other.answers(4, 1, 1)
	other.asks(2, 1)
	other.steps(5, 2, 0)
	one.steps(58, 2, 0)
	one.answers(58, 1, 2)
	other.counts(1)
	other.answers(6, 1, 2)
}
