package rtu_test

import (
	"math"
	"math/rand"
	"testing"

	"bascule/api"
	"bascule/rtu"
)

// P5.2: the chapter's examples.
func TestLineExamples(t *testing.T) {
	w := watch(t, 4)
	tells(t, w.feed(0, 1))
	tells(t, w.feed(3, 2))
	tells(t, w.wait(6))
	tells(t, w.wait(7), []byte{1, 2})
	tells(t, w.wait(20))
	tells(t, w.feed(21, 3))
	tells(t, w.feed(30, 4), []byte{3})
}

// P5.2: gaps from 1 on are taken, those below refused.
func TestNew(t *testing.T) {
	for _, gap := range []int{1, 2, 4, 1000, 1 << 40, math.MaxInt} {
		tells(t, watch(t, gap).wait(0))
	}
	for _, gap := range []int{0, -1, -2, -1000, -1 << 40, math.MinInt, math.MinInt + 1} {
		if l, e := rtu.New(gap); l != nil || e != api.ErrArg {
			t.Errorf("New(%d): %v, %d", gap, l, e)
		}
	}
}

// P5.2: on a line on which nothing came nothing is told, however long it is waited.
func TestNothingCame(t *testing.T) {
	w := watch(t, 3)
	for _, now := range []int{0, 0, 2, 3, 4, 100, 1 << 40} {
		tells(t, w.wait(now))
		tells(t, w.feed(now))
	}
}

// P5.2: just gap less one, just gap, and more than gap ticks behind the last bytes, by both calls, from many ticks on.
func TestGap(t *testing.T) {
	for _, gap := range []int{1, 2, 3, 4, 100, 1 << 20, 1 << 39} {
		for _, first := range []int{0, 1, gap - 1, gap, gap + 1, 12345, 1 << 38} {
			for _, more := range []int{0, 1, 2, gap, 3 * gap} {
				w := watch(t, gap)
				tells(t, w.feed(first, 7, 8))
				tells(t, w.wait(first+gap-1))
				tells(t, w.feed(first+gap-1))
				tells(t, w.wait(first+gap+more), []byte{7, 8})
				tells(t, w.wait(first+gap+more))

				w = watch(t, gap)
				tells(t, w.feed(first, 7))
				tells(t, w.feed(first+gap-1, 8))
				tells(t, w.feed(first+2*gap-1+more, 9), []byte{7, 8})
				tells(t, w.feed(first+3*gap-1+more), []byte{9})
				tells(t, w.feed(first+4*gap+more))
			}
		}
	}
}

// P5.2: with a gap of 1 what comes at one tick belongs together, and nothing else does.
func TestGapOfOne(t *testing.T) {
	w := watch(t, 1)
	tells(t, w.feed(0, 1))
	tells(t, w.feed(0, 2))
	tells(t, w.wait(0))
	tells(t, w.feed(1, 3), []byte{1, 2})
	tells(t, w.feed(2, 4), []byte{3})
	tells(t, w.feed(2, 5))
	tells(t, w.wait(3), []byte{4, 5})
	tells(t, w.wait(3))
}

// P5.2: the same tick, handed in again and again, is taken each time; what is told at it is told once.
func TestSameTick(t *testing.T) {
	w := watch(t, 5)
	for k := range 4 {
		tells(t, w.feed(10, byte(k)))
		tells(t, w.wait(10))
	}
	tells(t, w.feed(15, 9), []byte{0, 1, 2, 3})
	tells(t, w.feed(15, 8))
	tells(t, w.wait(15))
	tells(t, w.wait(20), []byte{9, 8})
	tells(t, w.wait(20))
	tells(t, w.feed(20))
}

// P5.2: Feed without bytes brings none: the silence goes on from the last call that did.
func TestFeedWithoutBytes(t *testing.T) {
	for _, none := range [][]byte{nil, {}, make([]byte, 0, 9)} {
		w := watch(t, 4)
		tells(t, w.feed(0, none...))
		tells(t, w.feed(1, 1))
		tells(t, w.feed(3, none...))
		tells(t, w.wait(4))
		tells(t, w.feed(4, none...))
		tells(t, w.feed(5, none...), []byte{1})
		tells(t, w.feed(9, none...))
		tells(t, w.feed(10, 2))
		tells(t, w.feed(12, none...))
		tells(t, w.feed(14, 3), []byte{2})
	}
}

// P5.2: what is gap apart is told apart, even if many calls bring some one behind the other.
func TestOneBehindTheOther(t *testing.T) {
	w := watch(t, 10)
	tells(t, w.feed(0, 0))
	for k := 1; k < 300; k++ {
		tells(t, w.feed(10*k, byte(k)), []byte{byte(k - 1)})
	}
	tells(t, w.wait(math.MaxInt), []byte{byte(299 % 256)})
}

// inCalls feeds n bytes in calls of some bytes at most each, a tick apart, and answers them and the last tick.
func inCalls(t *testing.T, w *watched, now, n, most int) ([]byte, int) {
	t.Helper()
	all := some(n, most)
	for at := 0; at < n; at += most {
		now++
		tells(t, w.feed(now, all[at:min(at+most, n)]...))
	}
	return all, now
}

// P5.2: 256 bytes are told, 257 and more are dropped, in one call and in several; the line goes on behind them.
func TestLongest(t *testing.T) {
	for _, n := range []int{1, 2, 3, 4, 255, 256, 257, 258, 511, 512, 513, 1000, 70000} {
		for _, most := range []int{1, 2, 16, 128, 200, 255, 256, 257, 70000} {
			if n/most > 1000 {
				continue
			}
			w := watch(t, 2)
			all, now := inCalls(t, w, 0, n, most)
			tells(t, w.wait(now+1))
			if n <= 256 {
				tells(t, w.wait(now+2), all)
			} else {
				tells(t, w.wait(now+2))
			}
			tells(t, w.wait(now+3))
			all, now = inCalls(t, w, now+3, 256, most)
			tells(t, w.feed(now+2, 1), all)
			tells(t, w.wait(now+4), []byte{1})
		}
	}
}

// P5.2: bytes that came behind too many still belong to them, and are dropped with them; those that come when they are at their end do not.
func TestBehindTooMany(t *testing.T) {
	w := watch(t, 4)
	tells(t, w.feed(0, some(257, 1)...))
	tells(t, w.feed(3, 1))
	tells(t, w.feed(6, 2))
	tells(t, w.wait(9))
	tells(t, w.feed(9, some(300, 2)...))
	tells(t, w.feed(13, 3))
	tells(t, w.feed(16, 4))
	tells(t, w.feed(20, some(256, 3)...), []byte{3, 4})
	tells(t, w.feed(23, 5))
	tells(t, w.feed(27, 6))
	tells(t, w.wait(31), []byte{6})
}

// P5.2: ticks below 0, and below one that was handed in ahead, by whichever call, are refused by both, and nothing is changed: no byte comes, no silence ends, no tick is taken.
func TestWrongTicks(t *testing.T) {
	w := watch(t, 4)
	refused := func(ticks ...int) {
		t.Helper()
		for _, now := range append(ticks, -1, -2, -4, -1<<40, math.MinInt, math.MinInt+1) {
			before := w.tick
			for _, b := range [][]byte{nil, {9}, some(300, 1)} {
				if out, e := w.line.Feed(now, b); len(out) != 0 || e != api.ErrArg {
					t.Fatalf("behind %d: Feed(%d, %d bytes): %x, %d", before, now, len(b), out, e)
				}
			}
			if out, e := w.line.Wait(now); len(out) != 0 || e != api.ErrArg {
				t.Fatalf("behind %d: Wait(%d): %x, %d", before, now, out, e)
			}
		}
	}
	refused()
	tells(t, w.wait(0))
	refused()
	tells(t, w.feed(5, 1))
	refused(4, 1, 0)
	tells(t, w.wait(7))
	refused(6, 5)
	tells(t, w.feed(8, 2))
	refused(7, 4)
	tells(t, w.feed(11))
	refused(10, 8)
	tells(t, w.wait(12), []byte{1, 2})
	refused(11, 0)
	tells(t, w.wait(12))
	tells(t, w.feed(1<<40, 3))
	refused(1<<40-1, 12)
	tells(t, w.feed(1<<40+3, 4))
	tells(t, w.wait(1<<40+7), []byte{3, 4})
}

// P5.2: silence runs up to the greatest ticks, and beside the greatest gaps, without a wrap.
func TestGreatTicks(t *testing.T) {
	w := watch(t, 3)
	tells(t, w.feed(0, 1))
	tells(t, w.feed(1<<40-6, 2), []byte{1})
	tells(t, w.feed(1<<40-4, 3))
	tells(t, w.wait(1<<40-2))
	tells(t, w.wait(1<<40-1), []byte{2, 3})
	tells(t, w.feed(1<<40, 4))

	w = watch(t, 1<<40)
	tells(t, w.feed(0, 1))
	tells(t, w.wait(1<<40-1))
	tells(t, w.wait(1<<40), []byte{1})

	l, _ := rtu.New(math.MaxInt)
	l.Feed(1, []byte{1})
	for _, now := range []int{1, 2, 1 << 40, math.MaxInt} {
		if out, e := l.Wait(now); len(out) != 0 || e != api.OK {
			t.Errorf("Wait(%d): %x, %d", now, out, e)
		}
	}
}

// P5.2: no line, whatever it is handed.
func TestNil(t *testing.T) {
	var l *rtu.Line
	for _, now := range []int{0, 1, 1 << 40, -1, math.MinInt, math.MaxInt} {
		for _, b := range [][]byte{nil, {}, {1}, make([]byte, 257)} {
			if out, e := l.Feed(now, b); len(out) != 0 || e != api.ErrNil {
				t.Errorf("Feed(%d, %x): %x, %d", now, b, out, e)
			}
		}
		if out, e := l.Wait(now); len(out) != 0 || e != api.ErrNil {
			t.Errorf("Wait(%d): %x, %d", now, out, e)
		}
	}
}

// P5.2: calls of all sorts, one behind the other, against the model.
func TestCallsOfAllSorts(t *testing.T) {
	r := rand.New(rand.NewSource(1))
	for _, gap := range []int{1, 2, 3, 4, 7, 50} {
		for range 60 {
			w, now := watch(t, gap), r.Intn(5)
			for range 120 {
				step := []int{0, 0, 1, gap - 1, gap, gap + 1, 2 * gap, -1, -gap, -now - 1}[r.Intn(10)]
				at := now + step
				now = max(now, at)
				switch r.Intn(4) {
				case 0:
					w.wait(at)
				case 1:
					w.feed(at)
				default:
					w.feed(at, some([]int{1, 2, 3, 100, 128, 255, 256, 257, 300}[r.Intn(9)], r.Intn(99))...)
				}
			}
		}
	}
}
