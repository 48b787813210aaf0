package mbap_test

import (
	"math/rand"
	"testing"

	"bascule/api"
	"bascule/mbap"
)

// edges are frames at the edges of what may be.
func edges() []api.Adu {
	return []api.Adu{
		small,
		{Pdu: []byte{0}},
		{Tid: 65535, Unit: 255, Pdu: []byte{255}},
		{Tid: 0, Unit: 255, Pdu: some(253, 1)},
		{Tid: 65535, Unit: 0, Pdu: make([]byte, 253)},
		{Tid: 256, Unit: 248, Pdu: some(252, 2)},
		// What lies within a frame may look like the start of one, or of none.
		{Tid: 1, Unit: 1, Pdu: framed(small)},
		{Tid: 1, Unit: 0, Pdu: []byte{0, 1, 0, 1, 0, 3, 255, 255, 255, 255}},
	}
}

// P6.2: the chapter's examples.
func TestStreamExamples(t *testing.T) {
	b := framed(small)
	w := watch(t)
	w.tells(b[:8], 8)
	w.tells(b[8:], 0, small)
	watch(t).breaks([]byte{0, 1, 0, 1, 0, 3})
}

// P6.2: frames at the edges, alone: whole at once; ahead of the last byte nothing is told, and with it the frame is, once.
func TestOneFrame(t *testing.T) {
	for _, a := range edges() {
		b := framed(a)
		w := watch(t)
		w.tells(b, 0, a)
		w.tells(nil, 0)

		w = watch(t)
		w.tells(b[:len(b)-1], len(b)-1)
		w.tells(b[len(b)-1:], 0, a)
		w.tells(b, 0, a)

		w = watch(t)
		for k := range len(b) - 1 {
			w.tells(b[k:k+1], k+1)
		}
		w.tells(b[len(b)-1:], 0, a)
	}
}

// P6.2: Left ahead of a frame, within each of its parts, and behind it.
func TestLeft(t *testing.T) {
	for _, a := range edges() {
		b := framed(a)
		for n := range b {
			w := watch(t)
			w.tells(b[:n], n)
			w.tells(b[n:], 0, a)

			w = watch(t)
			w.tells(append(framed(small), b[:n]...), n, small)
			w.tells(append(b[n:], 9), 1, a)
		}
	}
}

// P6.2: several frames in one Feed, just ended, lacking a byte, and with one more.
func TestSeveralInOneFeed(t *testing.T) {
	frames := edges()
	for n := 1; n <= len(frames); n++ {
		b := allFramed(frames[:n]...)
		last := len(framed(frames[n-1]))
		watch(t).tells(b, 0, frames[:n]...)

		w := watch(t)
		w.tells(b[:len(b)-1], last-1, frames[:n-1]...)
		w.tells(b[len(b)-1:], 0, frames[n-1])

		w = watch(t)
		w.tells(append(b, 0), 1, frames[:n]...)
		w.tells(framed(api.Adu{Tid: 7, Unit: 3, Pdu: []byte{1}})[1:], 0, api.Adu{Tid: 7, Unit: 3, Pdu: []byte{1}})
	}
}

// P6.2: many frames, of each size, the same one again and again among them, in one Feed.
func TestManyInOneFeed(t *testing.T) {
	var frames []api.Adu
	for n := 1; n <= 253; n++ {
		frames = append(frames, api.Adu{Tid: n * 250, Unit: n % 256, Pdu: some(n, n)}, small, small)
	}
	watch(t).tells(allFramed(frames...), 0, frames...)
}

// P6.2: Feed without bytes changes nothing, ahead of frames, within them and behind them.
func TestFeedWithoutBytes(t *testing.T) {
	b := allFramed(small, small)
	for _, none := range [][]byte{nil, {}, make([]byte, 0, 9)} {
		for n := range 9 {
			w := watch(t)
			w.tells(none, 0)
			w.tells(b[:n], n)
			w.tells(none, n)
			w.tells(none, n)
			w.tells(b[n:], 0, small, small)
			w.tells(none, 0)
		}
	}
}

// wrongStarts are six bytes that no frame begins with: by their second word, by their third one, by both.
func wrongStarts() [][]byte {
	var starts [][]byte
	for _, x := range [][2]int{
		{1, 3}, {256, 3}, {65535, 3}, {2, 2}, {255, 254}, {257, 100}, {32768, 3},
		{0, 0}, {0, 1}, {0, 255}, {0, 65535}, {0, 256}, {0, 257}, {0, 258}, {0, 510}, {0, 512}, {0, 32770},
		{1, 0}, {1, 1}, {256, 255}, {65535, 65535},
	} {
		for _, tid := range []int{0, 1, 258, 65535} {
			starts = append(starts, []byte{byte(tid / 256), byte(tid % 256), byte(x[0] / 256), byte(x[0] % 256), byte(x[1] / 256), byte(x[1] % 256)})
		}
	}
	return starts
}

// P6.2: a second word that is not 0, or a third one not 2 to 254, breaks a stream as soon as six bytes are there, and not ahead of that.
func TestBroken(t *testing.T) {
	for _, start := range wrongStarts() {
		watch(t).breaks(start)
		watch(t).breaks(append(start, some(300, 1)...))
		for n := range 6 {
			w := watch(t)
			w.tells(start[:n], n)
			w.breaks(start[n:])

			w = watch(t)
			w.tells(start[:n], n)
			w.tells(nil, n)
			w.breaks(append(start[n:6:6], 17, 3, 0))
		}
		w := watch(t)
		for n := range 5 {
			w.tells(start[n:n+1], n+1)
		}
		w.breaks(start[5:])
	}
}

// P6.2: frames ahead of what broke a stream are told with ErrLine, or, if they were whole by an earlier call, not again; those behind it are not told.
func TestBrokenBehindFrames(t *testing.T) {
	for _, start := range wrongStarts() {
		for _, behind := range [][]byte{nil, {1}, framed(small), allFramed(edges()...)} {
			wrong := append(start[:6:6], behind...)
			frames := edges()
			b := allFramed(frames...)
			watch(t).breaks(append(framed(small), wrong...), small)
			watch(t).breaks(append(b[:len(b):len(b)], wrong...), frames...)

			w := watch(t)
			w.tells(b, 0, frames...)
			w.breaks(wrong)

			w = watch(t)
			w.tells(append(b[:len(b):len(b)], wrong[:5]...), 5, frames...)
			w.breaks(wrong[5:])

			w = watch(t)
			last := frames[len(frames)-1]
			w.tells(b[:len(b)-1], len(framed(last))-1, frames[:len(frames)-1]...)
			w.breaks(append(b[len(b)-1:len(b):len(b)], wrong...), last)
		}
	}
}

// P6.2: of all second words none but 0, and of all third words none but 2 to 254, is taken.
func TestEveryWord(t *testing.T) {
	for n := range 65536 {
		high, low := byte(n/256), byte(n%256)
		s := mbap.New()
		out, e := s.Feed([]byte{1, 2, high, low, 0, 3})
		if ok := n == 0; len(out) != 0 || ok && (e != api.OK || s.Left() != 6) || !ok && (e != api.ErrLine || s.Left() != 0) {
			t.Fatalf("second word %d: %v, %d, %d left", n, out, e, s.Left())
		}
		s = mbap.New()
		out, e = s.Feed([]byte{1, 2, 0, 0, high, low})
		if ok := n >= 2 && n <= 254; len(out) != 0 || ok && (e != api.OK || s.Left() != 6) || !ok && (e != api.ErrLine || s.Left() != 0) {
			t.Fatalf("third word %d: %v, %d, %d left", n, out, e, s.Left())
		}
	}
}

// P6.2: no stream, whatever it is handed.
func TestNil(t *testing.T) {
	var s *mbap.Stream
	for _, b := range [][]byte{nil, {}, {1}, framed(small), {0, 1, 0, 1, 0, 3}, make([]byte, 300)} {
		if out, e := s.Feed(b); len(out) != 0 || e != api.ErrNil {
			t.Errorf("Feed(%x): %v, %d", b, out, e)
		}
		if n := s.Left(); n != 0 {
			t.Errorf("Left: %d", n)
		}
	}
}

// P6.2: bytes of all sorts, frames and others, in parts of all sizes, against the model.
func TestBytesOfAllSorts(t *testing.T) {
	r := rand.New(rand.NewSource(6))
	for range 3000 {
		w := watch(t)
		for range 1 + r.Intn(8) {
			b := framed(api.Adu{Tid: r.Intn(65536), Unit: r.Intn(256), Pdu: some(1+r.Intn([]int{1, 4, 253}[r.Intn(3)]), r.Intn(99))})
			if r.Intn(4) == 0 {
				b[r.Intn(len(b))] ^= 1 << r.Intn(8)
			}
			if r.Intn(8) == 0 {
				b = b[:r.Intn(len(b))]
			}
			for len(b) > 0 {
				n := 1 + r.Intn(len(b))
				w.feed(b[:n]...)
				b = b[n:]
			}
		}
	}
}
