package master_test

import (
	"math/big"
	"slices"
	"testing"

	"bascule/api"
	"bascule/master"
	"bascule/pdu"
)

// read is the chapter's request, and seven is an answer to it.
var (
	read  = api.Request{Func: 3, Count: 1}
	seven = []byte{3, 2, 0, 7}
)

// record is a request that was asked, and all that was done with it.
type record struct {
	ticket, unit int
	req          api.Request
	sends        []int // the ticks
	done, late   bool
	end          int // the tick
}

// model is what a master has to be, worked out anew at each call from the records of all that was asked.
type model struct {
	wait, again, rest int
	records           []*record
	last              int // the tick that was handed in last
}

// isOut answers whether a request was sent, and is not done.
func (r *record) isOut() bool { return len(r.sends) > 0 && !r.done }

// told answers what is told when it is sent.
func (r *record) told() api.Send { return api.Send{Ticket: r.ticket, Unit: r.unit, Req: r.req} }

// out answers the one that is out.
func (m *model) out() *record {
	for _, r := range m.records {
		if r.isOut() {
			return r
		}
	}
	return nil
}

// waiting answers those that were never sent.
func (m *model) waiting() []*record {
	var w []*record
	for _, r := range m.records {
		if len(r.sends) == 0 {
			w = append(w, r)
		}
	}
	return w
}

// count answers how many are not done.
func (m *model) count() int {
	n := 0
	for _, r := range m.records {
		if !r.done {
			n++
		}
	}
	return n
}

// behind answers whether now is n or more ticks behind a tick; n may be as great as an int gets.
func behind(now, tick, n int) bool {
	end := new(big.Int).Add(big.NewInt(int64(tick)), big.NewInt(int64(n)))
	return big.NewInt(int64(now)).Cmp(end) >= 0
}

// rests answers whether a unit rests at now.
func (m *model) rests(unit, now int) bool {
	for _, r := range m.records {
		if r.unit == unit && r.late && !behind(now, r.end, m.rest) {
			return true
		}
	}
	return false
}

// tick takes a tick, if it may be.
func (m *model) tick(now int) bool {
	if now < 0 || now < m.last {
		return false
	}
	m.last = now
	return true
}

// ask answers what Ask has to.
func (m *model) ask(unit int, r api.Request) (int, api.Errno) {
	if unit < 0 || unit > 247 || pdu.Check(r) != api.OK {
		return 0, api.ErrArg
	}
	if len(m.waiting()) >= 64 {
		return 0, api.ErrFull
	}
	r.Values = slices.Clone(r.Values)
	one := &record{ticket: len(m.records) + 1, unit: unit, req: r}
	m.records = append(m.records, one)
	return one.ticket, api.OK
}

// step answers what Step has to.
func (m *model) step(now int) (sends []api.Send, done []api.Done, e api.Errno) {
	if !m.tick(now) {
		return nil, nil, api.ErrArg
	}
	if r := m.out(); r != nil && behind(now, r.sends[len(r.sends)-1], m.wait) {
		if len(r.sends) < m.again+1 {
			r.sends = append(r.sends, now)
			return []api.Send{r.told()}, nil, api.OK
		}
		r.done, r.late, r.end = true, true, now
		done = []api.Done{{Ticket: r.ticket, Late: true}}
	}
	if m.out() != nil {
		return nil, done, api.OK
	}
	for _, r := range m.waiting() {
		if !m.rests(r.unit, now) {
			r.sends = []int{now}
			return []api.Send{r.told()}, done, api.OK
		}
	}
	return nil, done, api.OK
}

// came answers what Came has to.
func (m *model) came(now, unit int, b []byte) ([]api.Done, api.Errno) {
	if !m.tick(now) {
		return nil, api.ErrArg
	}
	r := m.out()
	if r == nil || r.unit != unit {
		return nil, api.ErrNone
	}
	a, e := pdu.AnswerParse(r.req, b)
	if e != api.OK {
		return nil, api.ErrNone
	}
	r.done, r.end = true, now
	return []api.Done{{Ticket: r.ticket, Ans: a}}, api.OK
}

// sameSend answers whether two sendings say the same.
func sameSend(a, b api.Send) bool {
	return a.Ticket == b.Ticket && a.Unit == b.Unit && sameRequest(a.Req, b.Req)
}

// sameRequest answers whether two requests say the same.
func sameRequest(a, b api.Request) bool {
	return a.Func == b.Func && a.Addr == b.Addr && a.Count == b.Count && slices.Equal(a.Values, b.Values) && a.To == b.To && a.And == b.And && a.Or == b.Or
}

// sameDone answers whether two ends say the same.
func sameDone(a, b api.Done) bool {
	return a.Ticket == b.Ticket && a.Late == b.Late && a.Ans.Code == b.Ans.Code && slices.Equal(a.Ans.Values, b.Ans.Values)
}

// watched is a master each call of which is held against the model.
type watched struct {
	t      *testing.T
	master *master.Master
	model  model
}

// watch answers a new master that is watched.
func watch(t *testing.T, wait, again, rest int) *watched {
	t.Helper()
	m, e := master.New(wait, again, rest)
	if m == nil || e != api.OK {
		t.Fatalf("New(%d, %d, %d): %v, %d", wait, again, rest, m, e)
	}
	w := &watched{t: t, master: m, model: model{wait: wait, again: again, rest: rest}}
	w.counts(0)
	return w
}

// counts holds how many are not done, asked twice: asking changes nothing.
func (w *watched) counts(want int) {
	w.t.Helper()
	for range 2 {
		if n := w.master.Count(); n != want {
			w.t.Fatalf("Count: %d, not %d", n, want)
		}
	}
}

// ask calls Ask, and holds what is answered against the model.
func (w *watched) ask(unit int, r api.Request) (int, api.Errno) {
	w.t.Helper()
	want, wantErr := w.model.ask(unit, r)
	n, e := w.master.Ask(unit, r)
	if n != want || e != wantErr {
		w.t.Fatalf("Ask(%d, %+v): %d, %d, not %d, %d", unit, r, n, e, want, wantErr)
	}
	w.counts(w.model.count())
	return n, e
}

// step calls Step, and holds what is answered against the model.
func (w *watched) step(now int) ([]api.Send, []api.Done, api.Errno) {
	w.t.Helper()
	wantSends, wantDone, wantErr := w.model.step(now)
	sends, done, e := w.master.Step(now)
	if !slices.EqualFunc(sends, wantSends, sameSend) || !slices.EqualFunc(done, wantDone, sameDone) || e != wantErr {
		w.t.Fatalf("Step(%d): %v, %v, %d, not %v, %v, %d", now, sends, done, e, wantSends, wantDone, wantErr)
	}
	w.counts(w.model.count())
	return sends, done, e
}

// came calls Came, and holds what is answered against the model.
func (w *watched) came(now, unit int, b ...byte) ([]api.Done, api.Errno) {
	w.t.Helper()
	want, wantErr := w.model.came(now, unit, b)
	done, e := w.master.Came(now, unit, b)
	if !slices.EqualFunc(done, want, sameDone) || e != wantErr {
		w.t.Fatalf("Came(%d, %d, %x): %v, %d, not %v, %d", now, unit, b, done, e, want, wantErr)
	}
	w.counts(w.model.count())
	return done, e
}

// asks asks the chapter's request of units, one after the other, which are to get tickets from a first one on.
func (w *watched) asks(first int, units ...int) {
	w.t.Helper()
	for k, unit := range units {
		if n, e := w.ask(unit, read); n != first+k || e != api.OK {
			w.t.Fatalf("Ask(%d): %d, %d, not %d", unit, n, e, first+k)
		}
	}
}

// refuses asks what is to be refused with an error.
func (w *watched) refuses(unit int, r api.Request, want api.Errno) {
	w.t.Helper()
	if n, e := w.ask(unit, r); n != 0 || e != want {
		w.t.Fatalf("Ask(%d, %+v): %d, %d, not 0, %d", unit, r, n, e, want)
	}
}

// steps steps to a tick, at which one ticket is to be sent and another one to be late; 0: none.
func (w *watched) steps(now, sent, late int) {
	w.t.Helper()
	sends, done, e := w.step(now)
	if e != api.OK || len(sends) > 1 || len(done) > 1 {
		w.t.Fatalf("Step(%d): %v, %v, %d", now, sends, done, e)
	}
	if (len(sends) == 1) != (sent > 0) || sent > 0 && sends[0].Ticket != sent {
		w.t.Fatalf("Step(%d): sent %v, not %d", now, sends, sent)
	}
	if (len(done) == 1) != (late > 0) || late > 0 && !sameDone(done[0], api.Done{Ticket: late, Late: true}) {
		w.t.Fatalf("Step(%d): done %v, not %d", now, done, late)
	}
}

// answers lets the chapter's answer come, with which that ticket is to be done.
func (w *watched) answers(now, unit, ticket int) {
	w.t.Helper()
	done, e := w.came(now, unit, seven...)
	if e != api.OK || len(done) != 1 || !sameDone(done[0], api.Done{Ticket: ticket, Ans: api.Answer{Values: []int{7}}}) {
		w.t.Fatalf("Came(%d, %d): %v, %d, not %d", now, unit, done, e, ticket)
	}
}

// ignores lets bytes come that are to be answered by ErrNone, and nothing else.
func (w *watched) ignores(now, unit int, b ...byte) {
	w.t.Helper()
	if done, e := w.came(now, unit, b...); e != api.ErrNone || len(done) != 0 {
		w.t.Fatalf("Came(%d, %d, %x): %v, %d, not ErrNone", now, unit, b, done, e)
	}
}

// fell hands in a tick that may not be, to Step and to Came, an answer beside it.
func (w *watched) fell(now, unit int) {
	w.t.Helper()
	if sends, done, e := w.step(now); e != api.ErrArg || len(sends)+len(done) != 0 {
		w.t.Fatalf("Step(%d): %v, %v, %d, not ErrArg", now, sends, done, e)
	}
	for _, b := range [][]byte{seven, nil, {9}} {
		if done, e := w.came(now, unit, b...); e != api.ErrArg || len(done) != 0 {
			w.t.Fatalf("Came(%d, %d, %x): %v, %d, not ErrArg", now, unit, b, done, e)
		}
	}
}
