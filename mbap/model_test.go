package mbap_test

import (
	"bytes"
	"slices"
	"testing"

	"bascule/api"
	"bascule/mbap"
)

// some answers n bytes, other ones for other seeds.
func some(n, seed int) []byte {
	b := make([]byte, n)
	for k := range b {
		b[k] = byte(k*37 + seed*11 + 5)
	}
	return b
}

// framed answers the bytes of a frame, laid down one by one.
func framed(a api.Adu) []byte {
	n := len(a.Pdu) + 1
	return append([]byte{byte(a.Tid / 256), byte(a.Tid % 256), 0, 0, byte(n / 256), byte(n % 256), byte(a.Unit)}, a.Pdu...)
}

// allFramed answers the bytes of frames, one behind the other.
func allFramed(frames ...api.Adu) []byte {
	var b []byte
	for _, a := range frames {
		b = append(b, framed(a)...)
	}
	return b
}

// sameFrame answers whether two frames say the same.
func sameFrame(a, b api.Adu) bool {
	return a.Tid == b.Tid && a.Unit == b.Unit && bytes.Equal(a.Pdu, b.Pdu)
}

// wantOf works out from all the bytes that ever came which frames they are, how many bytes are left, and whether they break a stream.
func wantOf(all []byte) (frames []api.Adu, left int, broken bool) {
	at := 0
	for at+6 <= len(all) {
		second := int(all[at+2])*256 + int(all[at+3])
		third := int(all[at+4])*256 + int(all[at+5])
		if second != 0 || third < 2 || third > 254 {
			return frames, 0, true
		}
		if at+6+third > len(all) {
			break
		}
		frames = append(frames, api.Adu{Tid: int(all[at])*256 + int(all[at+1]), Unit: int(all[at+6]), Pdu: slices.Clone(all[at+7 : at+6+third])})
		at += 6 + third
	}
	return frames, len(all) - at, false
}

// watched is a stream each call of which is held against all that came on it.
type watched struct {
	t      *testing.T
	stream *mbap.Stream
	all    []byte
	told   int
	broken bool // by an earlier call
}

// watch answers a new stream that is watched.
func watch(t *testing.T) *watched {
	t.Helper()
	w := &watched{t: t, stream: mbap.New()}
	if w.stream == nil {
		t.Fatal("New: no stream")
	}
	w.holdLeft(0)
	return w
}

// holdLeft holds how many bytes are left, asked twice: asking changes nothing.
func (w *watched) holdLeft(want int) {
	w.t.Helper()
	for range 2 {
		if n := w.stream.Left(); n != want {
			w.t.Fatalf("behind %x: Left: %d, not %d", w.all, n, want)
		}
	}
}

// feed feeds bytes, and holds all that is answered against the model.
func (w *watched) feed(b ...byte) ([]api.Adu, api.Errno) {
	w.t.Helper()
	w.all = append(w.all, b...)
	frames, left, broken := wantOf(w.all)
	want, wantErr := frames[w.told:], api.OK
	if broken {
		wantErr = api.ErrLine
	}
	if w.broken {
		want = nil
	}
	out, e := w.stream.Feed(b)
	if !slices.EqualFunc(out, want, sameFrame) || e != wantErr {
		w.t.Fatalf("behind %x: %v, %d, not %v, %d", w.all, out, e, want, wantErr)
	}
	w.told, w.broken = len(frames), broken
	w.holdLeft(left)
	return out, e
}

// tells feeds bytes, which are to tell just these frames, and to leave that many bytes.
func (w *watched) tells(b []byte, left int, want ...api.Adu) {
	w.t.Helper()
	out, e := w.feed(b...)
	if !slices.EqualFunc(out, want, sameFrame) || e != api.OK {
		w.t.Fatalf("Feed(%x): %v, %d, not %v", b, out, e, want)
	}
	w.holdLeft(left)
}

// breaks feeds bytes, which are to be answered by ErrLine, with just these frames, and holds that the stream stays broken.
func (w *watched) breaks(b []byte, want ...api.Adu) {
	w.t.Helper()
	out, e := w.feed(b...)
	if !slices.EqualFunc(out, want, sameFrame) || e != api.ErrLine {
		w.t.Fatalf("Feed(%x): %v, %d, not %v and ErrLine", b, out, e, want)
	}
	w.holdLeft(0)
	for _, more := range [][]byte{nil, {}, {0}, framed(small), allFramed(small, small), make([]byte, 600), b} {
		out, e := w.stream.Feed(more)
		if len(out) != 0 || e != api.ErrLine {
			w.t.Fatalf("broken: Feed(%x): %v, %d", more, out, e)
		}
		w.holdLeft(0)
	}
}

// small is the chapter's frame.
var small = api.Adu{Tid: 1, Unit: 17, Pdu: []byte{3, 0}}
