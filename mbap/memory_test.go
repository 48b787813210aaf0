package mbap_test

import (
	"runtime"
	"slices"
	"testing"

	"bascule/api"
	"bascule/mbap"
)

// list is bytes with room behind them, and what all of that was.
type list struct {
	b, was []byte
}

// roomy answers a list of bytes that is watched.
func roomy(b []byte) list {
	l := append(slices.Clone(b), slices.Repeat([]byte{0xa5}, 600)...)
	return list{l[:len(b)], slices.Clone(l)}
}

// untouched answers whether the list, and its room, is as it was.
func (l list) untouched() bool { return slices.Equal(l.b[:len(l.was)], l.was) }

// turnAll turns all bytes of lists, and those in their room.
func turnAll(lists ...[]byte) {
	for _, b := range lists {
		b = b[:cap(b)]
		for k := range b {
			b[k] = ^b[k]
		}
	}
}

// pdus answers the lists within frames.
func pdus(frames []api.Adu) [][]byte {
	var lists [][]byte
	for _, a := range frames {
		lists = append(lists, a.Pdu)
	}
	return lists
}

// holdApart holds that no list comes into another one, by its room neither: each is turned in its turn, and put behind, and the others stay.
func holdApart(t *testing.T, lists ...[]byte) {
	t.Helper()
	for k, one := range lists {
		var were [][]byte
		for _, other := range lists {
			were = append(were, slices.Clone(other[:cap(other)]))
		}
		turnAll(one)
		_ = append(one, 1, 2, 3, 4, 5, 6, 7, 8, 9)
		for j, other := range lists {
			if j != k && !slices.Equal(other[:cap(other)], were[j]) {
				t.Fatalf("the lists %d and %d share memory", k, j)
			}
		}
	}
}

// R2: the bytes that a frame is made of, and their room, are not written into, and share no memory with its bytes.
func TestFrameLeavesItsPdu(t *testing.T) {
	for _, n := range []int{0, 1, 2, 252, 253, 254} {
		for _, tid := range []int{-1, 0, 65535} {
			l := roomy(some(n, tid+1))
			one, _ := mbap.Frame(api.Adu{Tid: tid, Unit: 9, Pdu: l.b})
			other, _ := mbap.Frame(api.Adu{Tid: tid, Unit: 9, Pdu: l.b})
			if !l.untouched() {
				t.Fatalf("Frame(%d, %d bytes) wrote into them", tid, n)
			}
			holdApart(t, l.b, one, other)
		}
	}
}

// R2: bytes that are fed, and their room, are not written into, by this call nor by later ones, and are not kept: what is told is what they were.
func TestFeedLeavesItsBytes(t *testing.T) {
	frames := append(edges(), edges()...)
	b := allFramed(frames...)
	for _, most := range []int{1, 2, 6, 7, 8, 9, 50, 255, 261, 1000, len(b)} {
		s := mbap.New()
		var fed []list
		var told []api.Adu
		for part := range slices.Chunk(b, most) {
			l := roomy(part)
			out, e := s.Feed(l.b)
			if !l.untouched() || e != api.OK {
				t.Fatalf("parts of %d: written into, %d", most, e)
			}
			fed, told = append(fed, l), append(told, out...)
			if len(fed)%2 == 0 {
				turnAll(l.b)
				fed[len(fed)-1].was = slices.Clone(l.b[:len(l.was)])
			}
		}
		for _, l := range fed {
			if !l.untouched() {
				t.Fatalf("parts of %d: written into by a later call", most)
			}
			turnAll(l.b)
		}
		if !slices.EqualFunc(told, frames, sameFrame) {
			t.Fatalf("parts of %d: told %v", most, told)
		}
	}
}

// R2: a call that breaks a stream, and those behind it, leave their bytes, too.
func TestBrokenLeavesItsBytes(t *testing.T) {
	s := mbap.New()
	first, wrong, more := roomy([]byte{0, 1, 0}), roomy([]byte{1, 0, 3, 1, 2, 3}), roomy(framed(small))
	s.Feed(first.b)
	s.Feed(wrong.b)
	s.Feed(more.b)
	if !first.untouched() || !wrong.untouched() || !more.untouched() {
		t.Error("written into")
	}
}

// R2: one list that is used for call after call, as a caller may, is told as it was at each of them.
func TestOneListForAllCalls(t *testing.T) {
	frames := edges()
	s := mbap.New()
	b := make([]byte, 1, 300)
	var told []api.Adu
	for _, x := range allFramed(frames...) {
		b[0] = x
		out, _ := s.Feed(b)
		told = append(told, out...)
	}
	turnAll(b)
	if !slices.EqualFunc(told, frames, sameFrame) {
		t.Errorf("told %v", told)
	}
}

// R2: the lists of one answer share no memory with each other, nor with those of earlier answers, nor with what was fed: what is put behind a Pdu does not come into the next one.
func TestPdusAreApart(t *testing.T) {
	b := allFramed(edges()...)
	s := mbap.New()
	var lists [][]byte
	for range 4 {
		l := roomy(b)
		out, e := s.Feed(l.b)
		if len(out) != len(edges()) || e != api.OK {
			t.Fatalf("%v, %d", out, e)
		}
		lists = append(append(lists, l.b), pdus(out)...)
	}
	holdApart(t, lists...)
}

// R2: what is told with ErrLine is the caller's own, too.
func TestPdusAheadOfBroken(t *testing.T) {
	l := roomy(append(allFramed(edges()...), 0, 1, 0, 1, 0, 3))
	out, e := mbap.New().Feed(l.b)
	if len(out) != len(edges()) || e != api.ErrLine {
		t.Fatalf("%v, %d", out, e)
	}
	holdApart(t, append(pdus(out), l.b)...)
}

// R2: what is told is the caller's own: what is written into it, into its room or into the list that holds it turns nothing that the stream keeps, and what comes later does not turn it.
func TestToldIsTheCallersOwn(t *testing.T) {
	frames := edges()
	b := allFramed(frames...)
	for n := 1; n < len(b); n++ {
		s := mbap.New()
		first, _ := s.Feed(b[:n])
		count := len(first)
		turnAll(pdus(first)...)
		for _, pdu := range pdus(first) {
			_ = append(pdu, slices.Repeat([]byte{0xee}, 300)...)
		}
		were := pdus(first)
		kept := make([][]byte, len(were))
		for k, pdu := range were {
			kept[k] = slices.Clone(pdu)
		}
		clear(first[:cap(first)])
		rest, e := s.Feed(b[n:])
		if !slices.EqualFunc(rest, frames[count:], sameFrame) || e != api.OK {
			t.Fatalf("behind %d: %v, %d", n, rest, e)
		}
		if !slices.EqualFunc(were, kept, slices.Equal) {
			t.Fatalf("behind %d: what was told turned", n)
		}
	}
}

// R2: the room behind what is fed does not count.
func TestRoomDoesNotCount(t *testing.T) {
	b := allFramed(small, small)
	for n := range b {
		one, other := mbap.New(), mbap.New()
		out, e := one.Feed(b[:n])
		alone, e2 := other.Feed(slices.Clip(slices.Clone(b[:n])))
		if !slices.EqualFunc(out, alone, sameFrame) || e != e2 || one.Left() != other.Left() {
			t.Errorf("Feed of %d bytes: %v, %d, alone %v, %d", n, out, e, alone, e2)
		}
	}
}

// R2: streams are apart: what comes on one, or breaks it, turns no other.
func TestStreamsAreApart(t *testing.T) {
	b := framed(small)
	one, other, third := watch(t), watch(t), watch(t)
	one.tells(b[:4], 4)
	other.tells(b[:8], 8)
	third.breaks([]byte{0, 1, 0, 1, 0, 3})
	one.tells(b[4:7], 7)
	other.tells(b[8:], 0, small)
	one.tells(b[7:], 0, small)
	watch(t).tells(b, 0, small)
}

// A stream keeps what is left, and does not hold on to what was told ahead of it.
func TestKeepsWhatIsLeft(t *testing.T) {
	held := func() int {
		var m runtime.MemStats
		runtime.GC()
		runtime.ReadMemStats(&m)
		return int(m.HeapAlloc)
	}
	b := append(slices.Repeat(framed(small), 20000), 0)
	before := held()
	var streams []*mbap.Stream
	for range 40 {
		s := mbap.New()
		s.Feed(b)
		streams = append(streams, s)
	}
	if more := held() - before; more > 10*len(b) {
		t.Errorf("%d streams with a byte left each hold %d bytes", len(streams), more)
	}
	for _, s := range streams {
		if s.Left() != 1 {
			t.Errorf("Left: %d", s.Left())
		}
	}
	runtime.KeepAlive(b)
}
