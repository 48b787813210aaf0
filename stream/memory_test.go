package stream_test

import (
	"runtime"
	"slices"
	"testing"

	"bascule/api"
	"bascule/stream"
)

// list is bytes with room behind them, and what all of that was.
type list struct {
	b, was []byte
}

// roomy answers a list of bytes that is watched.
func roomy(b []byte) list {
	l := append(slices.Clone(b), slices.Repeat([]byte{0xa5}, 600)...)
	return list{l[:len(b)], slices.Clone(l)}
}

// untouched answers whether the list, and its room, is as it was.
func (l list) untouched() bool { return slices.Equal(l.b[:len(l.was)], l.was) }

// turnBytes turns all bytes of b, and those in its room.
func turnBytes(b []byte) {
	b = b[:cap(b)]
	for k := range b {
		b[k] = ^b[k]
	}
}

// turnPackets turns all that packets have, with their lists, and all that is in the rooms of these.
func turnPackets(packets []api.Packet) {
	for k := range packets {
		codes, subs := packets[k].Codes, packets[k].Subs
		for j := range codes[:cap(codes)] {
			codes[:cap(codes)][j] = -7
		}
		for j := range subs[:cap(subs)] {
			subs[:cap(subs)][j] = api.Sub{Filter: "turned", Qos: 77}
		}
	}
	packets = packets[:cap(packets)]
	for k := range packets {
		packets[k] = api.Packet{Type: 99}
	}
}

// R2: bytes that are fed, and their room, are not written into, by this call nor by later ones, and are not kept: turned behind a call, they turn nothing.
func TestFeedLeavesItsBytes(t *testing.T) {
	sent := append(knowns(), knowns()...)
	b := bytesOf(sent)
	for _, size := range []int{1, 2, 3, 4, 5, 9, 50, 203, 1000, len(b)} {
		s := open(t, 300)
		var fed []list
		var told []api.Packet
		for part := range slices.Chunk(b, size) {
			l := roomy(part)
			out, e := s.Feed(l.b)
			if !l.untouched() || e != api.OK {
				t.Fatalf("parts of %d: written into, %d", size, e)
			}
			told = append(told, out...)
			if len(fed)%2 == 0 {
				turnBytes(l.b)
				l.was = slices.Clone(l.b[:len(l.was)])
			}
			fed = append(fed, l)
		}
		for _, l := range fed {
			if !l.untouched() {
				t.Fatalf("parts of %d: written into by a later call", size)
			}
			turnBytes(l.b)
		}
		if !sameAll(told, packetsOf(sent)) {
			t.Fatalf("parts of %d: told %s", size, brief(told))
		}
	}
}

// R2: a call that breaks a stream, and those behind it, leave their bytes, too.
func TestBrokenLeavesItsBytes(t *testing.T) {
	for _, digits := range []string{"c0 00 30 80 00 01", "c0 00 30 ff 7f 01", "c0 00 c1 00 01"} {
		s := open(t, 100)
		b := fromHex(digits)
		first, wrong, more := roomy(b[:3]), roomy(b[3:]), roomy(bytesOf(knowns()))
		s.Feed(first.b)
		s.Feed(wrong.b)
		s.Feed(more.b)
		if !first.untouched() || !wrong.untouched() || !more.untouched() {
			t.Errorf("%s: written into", digits)
		}
	}
}

// R2: no stream and no room: what is handed in stays as it is.
func TestNilLeavesItsBytes(t *testing.T) {
	var s *stream.Stream
	l := roomy(bytesOf(knowns()))
	s.Feed(l.b)
	if !l.untouched() {
		t.Error("written into")
	}
}

// R2: one list that is used for call after call, as a caller may, is told as it was at each of them.
func TestOneListForAllCalls(t *testing.T) {
	sent := knowns()
	s := open(t, 300)
	b := make([]byte, 1, 300)
	var told []api.Packet
	for _, x := range bytesOf(sent) {
		b[0] = x
		out, _ := s.Feed(b)
		told = append(told, out...)
		turnBytes(b)
	}
	if !sameAll(told, packetsOf(sent)) {
		t.Errorf("told %s", brief(told))
	}
}

// R2: packets that are told are the caller's own: turned, with their lists and the rooms of these, they turn no others, told ahead or behind, by this stream or another one, nor what is left, nor what was fed.
func TestPacketsAreTheCallersOwn(t *testing.T) {
	sent := knowns()
	b, want := bytesOf(sent), packetsOf(sent)
	piece := sent[len(sent)-1].b[:5]
	s, other := open(t, 300), open(t, 300)
	fed := roomy(joined(b, piece))
	early, _ := other.Feed(fed.b)
	for range 4 {
		kept, _ := s.Feed(fed.b)
		s.Feed(sent[len(sent)-1].b[5:])
		turned, e := s.Feed(fed.b)
		if !sameAll(kept, want) || !sameAll(turned, want) || e != api.OK {
			t.Fatalf("%s and %s, %d", brief(kept), brief(turned), e)
		}
		turnPackets(turned)
		if !sameAll(kept, want) || !sameAll(early, want) || !fed.untouched() || s.Left() != len(piece) {
			t.Fatalf("turned, too: %s, %s, %d left", brief(kept), brief(early), s.Left())
		}
		if out, e := s.Feed(sent[len(sent)-1].b[5:]); !sameAll(out, want[len(want)-1:]) || e != api.OK {
			t.Fatalf("behind those that were turned: %s, %d", brief(out), e)
		}
	}
}

// R2: lists of packets that are told by one answer are apart: one that is turned, and put behind, does not come into another one.
func TestListsOfOneAnswerAreApart(t *testing.T) {
	sent := append(knowns(), knowns()...)
	for k := range sent {
		out, e := open(t, 300).Feed(joined(bytesOf(sent), fromHex("c1 00")))
		if !sameAll(out, packetsOf(sent)) || e != api.ErrPacket {
			t.Fatalf("%s, %d", brief(out), e)
		}
		_ = append(out[k].Codes, 1, 2, 3, 4)
		_ = append(out[k].Subs, api.Sub{Filter: "more"}, api.Sub{Filter: "more"})
		turnPackets(out[k : k+1 : k+1])
		for j := range out {
			if j != k && !same(out[j], sent[j].p) {
				t.Fatalf("the packets %d and %d share memory", k, j)
			}
		}
	}
}

// R2: streams are apart: what one is fed, and what breaks it, turns no other one.
func TestStreamsAreApart(t *testing.T) {
	sent := knowns()
	b, want := bytesOf(sent), packetsOf(sent)
	s, other, big, wrong := open(t, 300), open(t, 300), open(t, 100), open(t, 100)
	var told, others []api.Packet
	for k, x := range b {
		out, e := s.Feed([]byte{x})
		told = append(told, out...)
		out, f := other.Feed([]byte{b[k]})
		others = append(others, out...)
		if e != api.OK || f != api.OK || s.Left() != other.Left() {
			t.Fatalf("%d, %d, %d and %d left", e, f, s.Left(), other.Left())
		}
		big.Feed(fromHex("30 63"))
		wrong.Feed(fromHex("c1 00"))
	}
	if !sameAll(told, want) || !sameAll(others, want) {
		t.Errorf("%s, %s", brief(told), brief(others))
	}
	if _, e := big.Feed(nil); e != api.ErrBig {
		t.Errorf("%d", e)
	}
	if _, e := wrong.Feed(nil); e != api.ErrPacket {
		t.Errorf("%d", e)
	}
}

// held answers how many bytes of memory are in use behind all that is done with.
func held() int {
	runtime.GC()
	var m runtime.MemStats
	runtime.ReadMemStats(&m)
	return int(m.HeapAlloc)
}

// A stream holds on to no bytes of packets that it told, nor to any once it is broken.
func TestToldIsNotHeld(t *testing.T) {
	const size = 1 << 20
	b := publish(size).b
	none := joined([]byte{0xf0}, b[1:])
	for k, part := range [][]byte{b, joined(b, fromHex("30")), joined(b, fromHex("30 80 00")), joined(b, none), none} {
		streams := make([]*stream.Stream, 32)
		before := held()
		for j := range streams {
			streams[j] = open(t, 2*size)
			streams[j].Feed(part[:size/2])
			streams[j].Feed(part[size/2:])
		}
		if more := held() - before; more > size*len(streams)/4 {
			t.Errorf("behind part %d: %d streams hold %d bytes", k, len(streams), more)
		}
		runtime.KeepAlive(streams)
	}
}
