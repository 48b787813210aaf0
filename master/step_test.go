package master_test

import (
	"math"
	"testing"

	"bascule/api"
)

// P7.2: with nothing that waits nothing is sent, and nothing is done.
func TestStepWithNothing(t *testing.T) {
	w := watch(t, 1, 0, 0)
	for now := range 20 {
		w.steps(now, 0, 0)
		w.steps(now, 0, 0)
	}
}

// P7.2: one is sent at the tick of the first Step behind its Ask, and no other one while it is out.
func TestOneAtATime(t *testing.T) {
	w := watch(t, 10, 16, 0)
	w.asks(1, 1, 2, 1, 3)
	w.steps(5, 1, 0)
	for now := 5; now < 15; now++ {
		w.steps(now, 0, 0)
	}
	w.steps(15, 1, 0)
	w.steps(15, 0, 0)
	w.answers(15, 1, 1)
	w.steps(15, 2, 0)
	w.steps(15, 0, 0)
	w.answers(16, 2, 2)
	w.asks(5, 1)
	w.steps(16, 3, 0)
	w.answers(16, 1, 3)
	w.steps(16, 4, 0)
	w.answers(16, 3, 4)
	w.steps(16, 5, 0)
	w.answers(16, 1, 5)
	w.steps(16, 0, 0)
}

// P7.2: a Step one tick ahead of wait does nothing; at wait, and behind it, the request is sent again, and the ticks count from there on.
func TestWait(t *testing.T) {
	for _, wait := range []int{1, 2, 3, 10, 1000} {
		for _, more := range []int{0, 1, 7, wait - 1, wait, 5 * wait} {
			w, now := watch(t, wait, 2, 9), 4
			w.asks(1, 8)
			w.steps(now, 1, 0)
			for range 2 {
				w.steps(now+wait-1, 0, 0)
				now += wait + more
				w.steps(now, 1, 0)
				w.steps(now, 0, 0)
			}
			w.steps(now+wait-1, 0, 0)
			w.steps(now+wait+more, 0, 1)
			w.counts(0)
		}
	}
}

// P7.2: Steps between do not put off what is sent again, nor do bytes that are no answer.
func TestWaitIsNotPutOff(t *testing.T) {
	w := watch(t, 10, 1, 50)
	w.asks(1, 1)
	for now := range 31 {
		switch now {
		case 0, 10:
			w.steps(now, 1, 0)
		case 20:
			w.steps(now, 0, 1)
		default:
			w.steps(now, 0, 0)
		}
		w.ignores(now, 2, seven...)
		w.ignores(now, 1, 0x84, 2)
	}
}

// P7.2: a request is sent again and one more times, each of them wait ticks behind the one ahead, and then it is late.
func TestAgain(t *testing.T) {
	for again := range 17 {
		w, now := watch(t, 3, again, 100), 11
		w.asks(1, 4)
		for range again + 1 {
			w.steps(now, 1, 0)
			w.steps(now+2, 0, 0)
			w.counts(1)
			now += 3
		}
		w.steps(now, 0, 1)
		w.counts(0)
		w.steps(now, 0, 0)
		w.steps(now+1000, 0, 0)
		w.ignores(now+1000, 4, seven...)
	}
}

// P7.2: one that is sent again for the last time may yet be answered.
func TestAnswerToTheLastTime(t *testing.T) {
	for again := range 17 {
		w, now := watch(t, 3, again, 100), 0
		w.asks(1, 4, 4)
		for range again + 1 {
			w.steps(now, 1, 0)
			now += 3
		}
		w.answers(now, 4, 1)
		w.steps(now, 2, 0)
		w.answers(now, 4, 2)
	}
}

// P7.2: when one is sent again, nothing else is done, however long ago it was sent; and how often one was sent does not count for the next.
func TestSentAgainAlone(t *testing.T) {
	w := watch(t, 10, 1, 0)
	w.asks(1, 1, 2, 1)
	w.steps(0, 1, 0)
	w.steps(1000000, 1, 0)
	w.steps(1000000, 0, 0)
	w.steps(2000000, 2, 1)
	w.steps(2000010, 2, 0)
	w.steps(2000020, 3, 2)
	w.steps(2000030, 3, 0)
	w.steps(2000040, 0, 3)
}

// P7.2: one Step makes one late and sends another one: of another unit at once, and of the same one if it need not rest.
func TestLateAndAnother(t *testing.T) {
	w := watch(t, 10, 0, 50)
	w.asks(1, 1, 1, 2, 1, 3)
	w.steps(0, 1, 0)
	w.steps(10, 3, 1)
	w.steps(20, 5, 3)
	w.steps(30, 0, 5)
	w.steps(59, 0, 0)
	w.steps(60, 2, 0)
	w.steps(70, 0, 2)
	w.steps(119, 0, 0)
	w.steps(120, 4, 0)

	w = watch(t, 10, 0, 0)
	w.asks(1, 1, 1, 1)
	w.steps(0, 1, 0)
	w.steps(10, 2, 1)
	w.steps(20, 3, 2)
	w.steps(30, 0, 3)
	w.asks(4, 1)
	w.steps(30, 4, 0)
}

// P7.2: a unit rests until rest ticks behind the Step that made it late, not behind the tick at which it might have been; just then, and behind it, it is asked again.
func TestRest(t *testing.T) {
	for _, rest := range []int{1, 2, 50, 1000} {
		for _, from := range []int{10, 11, 25, 500} {
			for _, more := range []int{0, 1, 30} {
				w := watch(t, 10, 0, rest)
				w.asks(1, 7, 7)
				w.steps(0, 1, 0)
				w.steps(from, 0, 1)
				w.asks(3, 7)
				w.steps(from, 0, 0)
				w.steps(from+rest-1, 0, 0)
				w.steps(from+rest+more, 2, 0)
				w.answers(from+rest+more, 7, 2)
				w.steps(from+rest+more, 3, 0)
			}
		}
	}
}

// P7.2: what rests lets others go ahead, each in its turn, and goes first when its rest has ended.
func TestOthersGoAhead(t *testing.T) {
	w := watch(t, 10, 0, 50)
	w.asks(1, 1, 1, 1, 2, 3, 2)
	w.steps(0, 1, 0)
	w.steps(10, 4, 1)
	w.answers(11, 2, 4)
	w.steps(12, 5, 0)
	w.answers(59, 3, 5)
	w.steps(59, 6, 0)
	w.answers(60, 2, 6)
	w.asks(7, 2)
	w.steps(60, 2, 0)
	w.answers(60, 1, 2)
	w.steps(60, 3, 0)
	w.answers(60, 1, 3)
	w.steps(60, 7, 0)
}

// P7.2: a rest is a unit's: several rest at the same time, each for its own.
func TestSeveralRest(t *testing.T) {
	w := watch(t, 10, 0, 100)
	w.asks(1, 0, 247, 5, 5, 247, 0)
	w.steps(0, 1, 0)
	w.steps(10, 2, 1)
	w.steps(20, 3, 2)
	w.steps(30, 0, 3)
	w.steps(109, 0, 0)
	w.steps(110, 6, 0)
	w.answers(119, 0, 6)
	w.steps(119, 0, 0)
	w.steps(120, 5, 0)
	w.answers(120, 247, 5)
	w.steps(129, 0, 0)
	w.steps(130, 4, 0)
	w.answers(130, 5, 4)
	w.counts(0)
}

// P7.2: of several whose rests have all ended the first one that was asked is sent, not the one whose rest ended first.
func TestFirstOfThoseThatRested(t *testing.T) {
	w := watch(t, 10, 0, 100)
	w.asks(1, 8, 9, 9, 8)
	w.steps(0, 1, 0)
	w.steps(10, 2, 1)
	w.steps(20, 0, 2)
	w.steps(1000, 3, 0)
	w.answers(1000, 9, 3)
	w.steps(1000, 4, 0)
}

// P7.2: a unit that was late once more rests anew, and for as long; one that was answered does not.
func TestRestsAnew(t *testing.T) {
	w, now := watch(t, 10, 0, 50), 0
	for k := range 8 {
		w.asks(1+k, 6)
		w.steps(now, 1+k, 0)
		w.steps(now+10, 0, 1+k)
		w.steps(now+59, 0, 0)
		now += 60
	}
	w.asks(9, 6, 6)
	w.steps(now, 9, 0)
	w.answers(now+1, 6, 9)
	w.steps(now+1, 10, 0)
	w.answers(now+2, 6, 10)
	w.asks(11, 6)
	w.steps(now+2, 11, 0)
}

// P7.2: a request of a unit that rests, asked at the time, waits; an answer of that unit does not end its rest.
func TestAnswerEndsNoRest(t *testing.T) {
	w := watch(t, 10, 0, 50)
	w.asks(1, 6, 6)
	w.steps(0, 1, 0)
	w.steps(10, 0, 1)
	w.ignores(11, 6, seven...)
	w.asks(3, 6)
	w.steps(11, 0, 0)
	w.steps(59, 0, 0)
	w.steps(60, 2, 0)
}

// P7.2: a wait and a rest as long as an int gets have no end, and ticks may be as great as they get.
func TestLongest(t *testing.T) {
	w := watch(t, math.MaxInt, 0, 0)
	w.asks(1, 1)
	w.steps(1, 1, 0)
	w.steps(1<<40, 0, 0)
	w.answers(1<<40, 1, 1)

	w = watch(t, 1, 0, math.MaxInt)
	w.asks(1, 1, 1, 2)
	w.steps(0, 1, 0)
	w.steps(1, 3, 1)
	w.answers(2, 2, 3)
	for _, now := range []int{2, 3, 1 << 31, 1 << 32, 1<<40 - 1, 1 << 40} {
		w.steps(now, 0, 0)
	}

	w = watch(t, 1, 1, 1)
	w.asks(1, 1, 1)
	w.steps(1<<40-3, 1, 0)
	w.steps(1<<40-2, 1, 0)
	w.steps(1<<40-1, 0, 1)
	w.steps(1<<40, 2, 0)
}

// P7.2 and P7.3: ticks below 0, and below one that was handed in ahead, change nothing: neither what is out, nor what rests, nor the tick itself.
func TestTicksThatFell(t *testing.T) {
	w := watch(t, 10, 1, 50)
	for _, now := range []int{-1, -2, -1 << 40, math.MinInt} {
		w.fell(now, 1)
	}
	w.asks(1, 1, 1)
	w.fell(-1, 1)
	w.steps(0, 1, 0)
	w.fell(-1, 1)
	w.steps(9, 0, 0)
	for _, now := range []int{8, 0, -1, math.MinInt} {
		w.fell(now, 1)
	}
	w.steps(10, 1, 0)
	w.fell(9, 1)
	w.steps(19, 0, 0)
	w.fell(18, 1)
	w.steps(20, 0, 1)
	w.fell(19, 1)
	w.steps(69, 0, 0)
	w.fell(68, 1)
	w.steps(70, 2, 0)
	w.fell(69, 1)
	w.answers(70, 1, 2)
}

// P7.2, P7.3 and R1: a tick that may be counts as handed in, by a Step that does nothing, by a Came, and by one that is answered by ErrNone; one that may not be does not.
func TestTicksThatCount(t *testing.T) {
	w := watch(t, 10, 1, 50)
	w.steps(5, 0, 0)
	w.fell(4, 1)
	w.ignores(7, 1, seven...)
	w.fell(6, 1)
	w.asks(1, 1, 2)
	w.steps(7, 1, 0)
	w.ignores(9, 2, seven...)
	w.fell(8, 1)
	w.ignores(11, 1, 9)
	w.fell(10, 1)
	w.answers(13, 1, 1)
	w.fell(12, 1)
	w.steps(13, 2, 0)
	if _, e := w.ask(248, read); e != api.ErrArg {
		t.Errorf("Ask: %d", e)
	}
	w.fell(12, 2)
	w.answers(13, 2, 2)
}
