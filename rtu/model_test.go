package rtu_test

import (
	"slices"
	"testing"

	"bascule/api"
	"bascule/rtu"
)

// coming is one call that brought bytes.
type coming struct {
	tick int
	b    []byte
}

// model is a line that keeps all that ever came, and works out anew at each call what was told of it.
type model struct {
	gap, tick, told int
	all             []coming
}

// ended answers, of all that came, what is at its end at a tick and short enough, in its order.
func (m *model) ended(now int) [][]byte {
	var out [][]byte
	for k := 0; k < len(m.all); {
		one, last := slices.Clone(m.all[k].b), m.all[k].tick
		for k++; k < len(m.all) && m.all[k].tick < last+m.gap; k++ {
			one, last = append(one, m.all[k].b...), m.all[k].tick
		}
		if now >= last+m.gap && len(one) < 257 {
			out = append(out, one)
		}
	}
	return out
}

// feed answers what a call tells; without bytes it is a Wait.
func (m *model) feed(now int, b []byte) ([][]byte, api.Errno) {
	if now < 0 || now < m.tick {
		return nil, api.ErrArg
	}
	m.tick = now
	ended := m.ended(now)
	news := ended[m.told:]
	m.told = len(ended)
	if len(b) > 0 {
		m.all = append(m.all, coming{now, slices.Clone(b)})
	}
	return news, api.OK
}

// watched is a line whose every call is held against the model.
type watched struct {
	t    *testing.T
	line *rtu.Line
	model
}

// watch answers a new line of a gap.
func watch(t *testing.T, gap int) *watched {
	t.Helper()
	l, e := rtu.New(gap)
	if l == nil || e != api.OK {
		t.Fatalf("New(%d): %v, %d", gap, l, e)
	}
	return &watched{t, l, model{gap: gap}}
}

// hold holds what a call told against the model.
func (w *watched) hold(call string, now int, b []byte, out [][]byte, e api.Errno) {
	w.t.Helper()
	want, wantE := w.model.feed(now, b)
	if e != wantE || !sameLists(out, want) {
		w.t.Fatalf("gap %d: %s(%d, %d bytes): %x, %d, not %x, %d", w.gap, call, now, len(b), out, e, want, wantE)
	}
}

// feed feeds bytes, and answers what was told.
func (w *watched) feed(now int, b ...byte) [][]byte {
	w.t.Helper()
	out, e := w.line.Feed(now, b)
	w.hold("Feed", now, b, out, e)
	return out
}

// wait waits, and answers what was told.
func (w *watched) wait(now int) [][]byte {
	w.t.Helper()
	out, e := w.line.Wait(now)
	w.hold("Wait", now, nil, out, e)
	return out
}

// sameLists says whether two lists of lists are the same, ones without elements among them.
func sameLists(a, b [][]byte) bool {
	return slices.EqualFunc(a, b, func(x, y []byte) bool { return slices.Equal(x, y) })
}

// tells holds that just these were told.
func tells(t *testing.T, out [][]byte, want ...[]byte) {
	t.Helper()
	if !sameLists(out, want) {
		t.Fatalf("told %x, not %x", out, want)
	}
}
