package master_test

import (
	"math/rand"
	"slices"
	"testing"

	"bascule/api"
)

// ledger holds what is told against P7.4 alone, and knows nothing else of how a master works.
type ledger struct {
	t       *testing.T
	w       *watched
	again   int
	times   map[int]int // by tickets: how often it was sent
	done    map[int]int // how often it was done
	out     int         // the ticket that is out; 0: none
	units   map[int]int // by tickets
	asked   map[int][]int
	first   map[int][]int // by units: the tickets in the order in which they were sent first
	rested  map[int]int   // by units: how often one was late
	highest int
}

// keep answers a ledger of a new master.
func keep(t *testing.T, wait, again, rest int) *ledger {
	t.Helper()
	return &ledger{t: t, w: watch(t, wait, again, rest), again: again, times: map[int]int{}, done: map[int]int{}, units: map[int]int{}, asked: map[int][]int{}, first: map[int][]int{}, rested: map[int]int{}}
}

// ask asks, and notes the ticket.
func (l *ledger) ask(unit int, r api.Request) {
	l.t.Helper()
	n, e := l.w.ask(unit, r)
	if e != api.OK {
		return
	}
	if n != l.highest+1 {
		l.t.Fatalf("ticket %d behind %d", n, l.highest)
	}
	l.highest, l.units[n], l.asked[unit] = n, unit, append(l.asked[unit], n)
}

// step steps, and notes what is told.
func (l *ledger) step(now int) {
	l.t.Helper()
	sends, done, _ := l.w.step(now)
	l.noteDone(done)
	for _, s := range sends {
		l.noteSend(s)
	}
	l.hold()
}

// came lets bytes come, and notes what is told.
func (l *ledger) came(now, unit int, b ...byte) {
	l.t.Helper()
	done, _ := l.w.came(now, unit, b...)
	l.noteDone(done)
	l.hold()
}

// noteSend holds that one is sent that was asked, is not done, was not sent too often, and that no other one is out.
func (l *ledger) noteSend(s api.Send) {
	l.t.Helper()
	if s.Ticket < 1 || s.Ticket > l.highest || l.units[s.Ticket] != s.Unit {
		l.t.Fatalf("sent %+v, which was not asked", s)
	}
	if l.done[s.Ticket] > 0 || l.out != 0 && l.out != s.Ticket {
		l.t.Fatalf("sent %d, done %d times, while %d is out", s.Ticket, l.done[s.Ticket], l.out)
	}
	if l.times[s.Ticket] == 0 {
		l.first[s.Unit] = append(l.first[s.Unit], s.Ticket)
	}
	l.times[s.Ticket]++
	l.out = s.Ticket
	if l.times[s.Ticket] > l.again+1 {
		l.t.Fatalf("sent %d %d times", s.Ticket, l.times[s.Ticket])
	}
}

// noteDone holds that one is done that is out, once.
func (l *ledger) noteDone(done []api.Done) {
	l.t.Helper()
	for _, d := range done {
		l.done[d.Ticket]++
		if l.done[d.Ticket] != 1 || l.out != d.Ticket || d.Ticket == 0 {
			l.t.Fatalf("%+v is done %d times, while %d is out", d, l.done[d.Ticket], l.out)
		}
		if d.Late {
			l.rested[l.units[d.Ticket]]++
		}
		l.out = 0
	}
}

// hold holds Count, and that the units that never rested were sent what they were asked, in that order.
func (l *ledger) hold() {
	l.t.Helper()
	l.w.counts(l.highest - len(l.done))
	for unit, first := range l.first {
		if l.rested[unit] == 0 && !slices.Equal(first, l.asked[unit][:len(first)]) {
			l.t.Fatalf("unit %d was asked %v, and sent first %v", unit, l.asked[unit], first)
		}
	}
}

// play does one of a few things at random, and answers the tick behind it.
func (l *ledger) play(r *rand.Rand, now, units int, good []byte) int {
	l.t.Helper()
	unit := r.Intn(units)
	outUnit := l.units[l.out]
	switch r.Intn(12) {
	case 0, 1, 2:
		l.ask(unit, read)
	case 3:
		some := all()
		l.ask(unit, some[r.Intn(len(some))])
	case 4, 5, 6:
		l.step(now)
	case 7:
		now += 1 + r.Intn(12)
		l.step(now)
	case 8:
		l.came(now, unit, good...)
	case 9:
		now += r.Intn(3)
		l.came(now, outUnit, good...)
	case 10:
		some := all()
		_, b := answerTo(l.t, some[r.Intn(len(some))])
		l.came(now, outUnit, b[:r.Intn(len(b)+1)]...)
	default:
		l.step(now - 1)
		l.came(now-1, outUnit, good...)
		l.ask(-1-unit, read)
	}
	return now
}

// P7.4: scripts at random over several units, with answers that are missing, late, of another unit and wrong, and ticks that fell.
func TestScripts(t *testing.T) {
	r := rand.New(rand.NewSource(7))
	for k := range 400 {
		units := 1 + r.Intn(6)
		l, now := keep(t, 1+r.Intn(8), []int{0, 1, 2, 16}[r.Intn(4)], []int{0, 1, 5, 40}[k%4]), 0
		for range 300 {
			now = l.play(r, now, units, seven)
		}
	}
}

// run does the calls of a script, each a digit of it: asking two units, steps at the same tick and one tick on, an answer, a refusal, and bytes that are none.
func (l *ledger) run(script, kinds, calls int) {
	l.t.Helper()
	now := 0
	for range calls {
		switch script % kinds {
		case 0:
			l.ask(1, read)
		case 1:
			l.ask(2, read)
		case 2:
			l.step(now)
		case 3:
			now++
			l.step(now)
		case 4:
			l.came(now, 1, seven...)
		case 5:
			l.came(now, 2, 0x83, 1)
		case 6:
			l.came(now, 1, 4, 2, 0, 7)
		}
		script /= kinds
	}
}

// P7.4: every script of a few calls, ahead of a first one that is sent, and behind it.
func TestEveryScript(t *testing.T) {
	const kinds, calls, scripts = 7, 5, 7 * 7 * 7 * 7 * 7
	for _, x := range [][3]int{{1, 0, 0}, {1, 0, 1}, {1, 1, 2}, {2, 0, 1}} {
		for script := range scripts {
			l := keep(t, x[0], x[1], x[2])
			l.run(script, kinds, calls)
			l = keep(t, x[0], x[1], x[2])
			l.ask(1, read)
			l.step(0)
			l.run(script, kinds, calls)
		}
	}
}

// P7.4: units that always answer are sent what they were asked, in that order, beside one that never does.
func TestOrderBesideOneThatRests(t *testing.T) {
	for _, rest := range []int{0, 1, 7, 100} {
		l, now := keep(t, 5, 2, rest), 0
		for k := range 900 {
			l.ask([]int{1, 2, 9, 2, 1, 3}[k%6], read)
			l.step(now)
			if l.units[l.out] != 9 {
				l.came(now, l.units[l.out], seven...)
				l.step(now)
			}
			now += k % 4
		}
		for ; now < 10000 && l.w.master.Count() > 0; now++ {
			l.step(now)
			if unit := l.units[l.out]; unit != 9 {
				l.came(now, unit, seven...)
			}
		}
		for _, unit := range []int{1, 2, 3} {
			if l.rested[unit] != 0 || !slices.Equal(l.first[unit], l.asked[unit]) {
				t.Fatalf("unit %d: asked %v, sent %v", unit, l.asked[unit], l.first[unit])
			}
		}
		for _, ticket := range l.asked[9] {
			if l.times[ticket] != 0 && l.done[ticket] == 1 && l.times[ticket] != 3 {
				t.Fatalf("%d was sent %d times, and is late", ticket, l.times[ticket])
			}
		}
	}
}

// P7.4: while no unit rests all are sent first in the order in which they were asked, whatever their units are.
func TestOrderOfAll(t *testing.T) {
	r := rand.New(rand.NewSource(8))
	l, now, next := keep(t, 4, 16, 100), 0, 1
	for range 2000 {
		for range r.Intn(3) {
			l.ask(r.Intn(248), read)
		}
		was := l.out
		l.step(now)
		if l.out != was {
			if l.out != next {
				t.Fatalf("sent %d, not %d", l.out, next)
			}
			next++
		}
		if l.out != 0 && r.Intn(3) > 0 {
			l.came(now, l.units[l.out], seven...)
		}
		now += r.Intn(3)
	}
}
