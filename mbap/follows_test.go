package mbap_test

import (
	"math/rand"
	"slices"
	"testing"

	"bascule/api"
	"bascule/mbap"
)

// everyParting feeds the same bytes to new streams, parted in every way that there is, each call held against the model, and holds that each time just these frames were told in all, and that the last call answered that error.
func everyParting(t *testing.T, b []byte, frames []api.Adu, end api.Errno) {
	t.Helper()
	for cuts := range 1 << (len(b) - 1) {
		w, from := watch(t), 0
		var told []api.Adu
		var last api.Errno
		for k := 1; k <= len(b); k++ {
			if k < len(b) && cuts>>(k-1)&1 == 0 {
				continue
			}
			out, e := w.feed(b[from:k]...)
			told, last, from = append(told, out...), e, k
		}
		if !slices.EqualFunc(told, frames, sameFrame) || last != end {
			t.Fatalf("%x, parted by %b: %v, %d", b, cuts, told, last)
		}
	}
}

// P6.3: frames, whole and with a piece behind them, parted in every way, are told as they were, and leave as much.
func TestEveryParting(t *testing.T) {
	one, other := api.Adu{Tid: 258, Unit: 255, Pdu: []byte{0}}, api.Adu{Tid: 65535, Pdu: []byte{7}}
	everyParting(t, framed(small), []api.Adu{small}, api.OK)
	everyParting(t, allFramed(one, other), []api.Adu{one, other}, api.OK)
	everyParting(t, append(framed(small), 0, 0, 0, 0, 0, 2, 1), []api.Adu{small}, api.OK)
	everyParting(t, append(framed(one), 0, 9, 0, 9, 9), []api.Adu{one}, api.OK)
}

// P6.3: bytes that break a stream, at its start and behind a frame, with others behind them, parted in every way, break it at the same place.
func TestEveryPartingOfBroken(t *testing.T) {
	one := api.Adu{Tid: 1, Unit: 2, Pdu: []byte{3}}
	for _, wrong := range [][]byte{
		{0, 1, 0, 1, 0, 3},
		{0, 1, 1, 0, 0, 2},
		{0, 1, 255, 255, 0, 254},
		{0, 1, 0, 0, 0, 0},
		{0, 1, 0, 0, 0, 1},
		{0, 1, 0, 0, 0, 255},
		{0, 1, 0, 0, 1, 2},
		{0, 1, 0, 0, 255, 255},
	} {
		everyParting(t, wrong, nil, api.ErrLine)
		everyParting(t, append(wrong[:6:6], framed(one)...), nil, api.ErrLine)
		everyParting(t, append(framed(one), wrong...), []api.Adu{one}, api.ErrLine)
	}
}

// P6.3: long bytes, those that break a stream among them, parted at each place into two, and into parts of each size, told alike.
func TestPartingsOfLong(t *testing.T) {
	frames := edges()
	whole := allFramed(frames...)
	broken := append(slices.Clone(whole), 0, 1, 0, 0, 0, 255, 1, 2, 3)
	for _, b := range [][]byte{whole, whole[:len(whole)-1], broken, append(broken, whole...)} {
		for n := range len(b) + 1 {
			w := watch(t)
			w.feed(b[:n]...)
			w.feed(b[n:]...)
		}
		for _, most := range []int{1, 2, 3, 5, 6, 7, 8, 9, 100, 259, 260, 261, 500} {
			w := watch(t)
			for part := range slices.Chunk(b, most) {
				w.feed(part...)
			}
		}
	}
}

// P6.3: what Frame made, of each Tid, of each Unit and of each size, is told as it was, however it is parted.
func TestMadeIsTold(t *testing.T) {
	r := rand.New(rand.NewSource(3))
	s := mbap.New()
	var sent, told []api.Adu
	var b []byte
	for tid := range 65536 {
		a := api.Adu{Tid: tid, Unit: tid / 3 % 256, Pdu: some(1+tid%253, tid)}
		f, e := mbap.Frame(a)
		if e != api.OK {
			t.Fatalf("Frame(%d, %d, %d bytes): %d", a.Tid, a.Unit, len(a.Pdu), e)
		}
		sent, b = append(sent, a), append(b, f...)
		if tid%97 != 0 && tid != 65535 {
			continue
		}
		for len(b) > 0 {
			n := min(len(b), 1+r.Intn(1+r.Intn(2000)))
			out, e := s.Feed(b[:n])
			if e != api.OK {
				t.Fatalf("Feed: %d", e)
			}
			told, b = append(told, out...), b[n:]
		}
		if !slices.EqualFunc(told, sent, sameFrame) || s.Left() != 0 {
			t.Fatalf("up to %d: %d told of %d, %d left", tid, len(told), len(sent), s.Left())
		}
		sent, told = nil, nil
	}
}
