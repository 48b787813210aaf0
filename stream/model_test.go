package stream_test

import (
	"encoding/hex"
	"fmt"
	"reflect"
	"slices"
	"strings"
	"testing"

	"bascule/api"
	"bascule/packet"
	"bascule/stream"
)

// longest is the greatest number of bytes that a packet has.
const longest = 268435460

// fromHex are the bytes that are written out by digits, with spaces between.
func fromHex(digits string) []byte {
	b, err := hex.DecodeString(strings.ReplaceAll(digits, " ", ""))
	if err != nil {
		panic(err)
	}
	return b
}

// joined are bytes, one behind the other, in new memory that has no spare room.
func joined(parts ...[]byte) []byte {
	return slices.Clip(slices.Concat(parts...))
}

// known is a packet, and its bytes.
type known struct {
	p api.Packet
	b []byte
}

// knowns are packets of all types, their bytes written out by hand.
func knowns() []known {
	return []known{
		{api.Packet{Type: 12}, fromHex("c0 00")},
		{api.Packet{Type: 1, Client: "a", Clean: true, Alive: 60}, fromHex("10 0d 0004 4d515454 04 02 003c 0001 61")},
		{api.Packet{Type: 1, Client: "c", HasWill: true, Msg: api.Message{Topic: "t", Payload: "w", Qos: 1, Retain: true}, HasUser: true, User: "u", HasPass: true, Pass: "\xff"}, fromHex("10 19 0004 4d515454 04 ec 0000 0001 63 0001 74 0001 77 0001 75 0001 ff")},
		{api.Packet{Type: 2, Present: true, Codes: []int{0}}, fromHex("20 02 01 00")},
		{api.Packet{Type: 2, Codes: []int{5}}, fromHex("20 02 00 05")},
		{api.Packet{Type: 3, Msg: api.Message{Topic: "a"}}, fromHex("30 03 0001 61")},
		{api.Packet{Type: 3, Msg: api.Message{Topic: "a", Payload: "hi", Qos: 1}, Id: 10}, fromHex("32 07 0001 61 000a 6869")},
		// What lies within a packet may look like the start of one, or of none.
		{api.Packet{Type: 3, Dup: true, Id: 65535, Msg: api.Message{Topic: "a", Payload: "\xc0\x00\xc1\x00\x30\x80\x80\x80\x80", Qos: 2, Retain: true}}, fromHex("3d 0e 0001 61 ffff c000 c100 3080808080")},
		{api.Packet{Type: 4, Id: 1}, fromHex("40 02 0001")},
		{api.Packet{Type: 5, Id: 258}, fromHex("50 02 0102")},
		{api.Packet{Type: 6, Id: 65535}, fromHex("62 02 ffff")},
		{api.Packet{Type: 7, Id: 128}, fromHex("70 02 0080")},
		{api.Packet{Type: 8, Id: 1, Subs: []api.Sub{{Filter: "a/#", Qos: 1}, {Filter: "b", Qos: 2}}}, fromHex("82 0c 0001 0003 612f23 01 0001 62 02")},
		{api.Packet{Type: 9, Id: 1, Codes: []int{0, 1, 2, 128}}, fromHex("90 06 0001 00 01 02 80")},
		{api.Packet{Type: 10, Id: 1, Subs: []api.Sub{{Filter: "a"}, {Filter: "b"}}}, fromHex("a2 08 0001 0001 61 0001 62")},
		{api.Packet{Type: 11, Id: 1}, fromHex("b0 02 0001")},
		{api.Packet{Type: 13}, fromHex("d0 00")},
		{api.Packet{Type: 14}, fromHex("e0 00")},
		// A length of two bytes.
		publish(200),
	}
}

// publish is a Publish behind whose length so many bytes stand; it takes three at the least.
func publish(n int) known {
	payload := strings.Repeat("0123456789", n/10+1)[:n-3]
	b := joined([]byte{0x30}, lengthBytes(n), []byte("\x00\x01a"+payload))
	return known{api.Packet{Type: 3, Msg: api.Message{Topic: "a", Payload: payload}}, b}
}

// lengthBytes are the bytes of a length.
func lengthBytes(n int) []byte {
	var b []byte
	for n > 127 {
		b = append(b, byte(n&127|128))
		n >>= 7
	}
	return append(b, byte(n))
}

// packetsOf and bytesOf are what packets are, and their bytes one behind the other.
func packetsOf(list []known) []api.Packet {
	var out []api.Packet
	for _, k := range list {
		out = append(out, k.p)
	}
	return out
}

func bytesOf(list []known) []byte {
	var out []byte
	for _, k := range list {
		out = append(out, k.b...)
	}
	return slices.Clip(out)
}

// same tells whether two packets are, field by field; a list without elements may be nil or not.
func same(p, q api.Packet) bool {
	lists := slices.Equal(p.Codes, q.Codes) && slices.Equal(p.Subs, q.Subs)
	p.Codes, p.Subs, q.Codes, q.Subs = nil, nil, nil, nil
	return lists && reflect.DeepEqual(p, q)
}

// sameAll tells whether packets are the same ones, in the same order.
func sameAll(list, other []api.Packet) bool {
	return slices.EqualFunc(list, other, same)
}

// brief tells packets by their types and their numbers: some are long.
func brief(list []api.Packet) string {
	var s strings.Builder
	for _, p := range list[:min(len(list), 30)] {
		fmt.Fprintf(&s, "%d/%d ", p.Type, p.Id)
	}
	return fmt.Sprintf("[%s] (%d packets)", s.String(), len(list))
}

// wantSize works out how many bytes a packet has that begins with b.
func wantSize(b []byte) (int, api.Errno) {
	n, weight := 0, 1
	for k := 1; k < len(b); k++ {
		n += int(b[k]) % 128 * weight
		weight *= 128
		switch {
		case b[k] == 0 && k > 1, b[k] > 127 && k == 4:
			return 0, api.ErrPacket
		case b[k] < 128:
			return 1 + k + n, api.OK
		}
	}
	return 0, api.ErrMore
}

// wantOf works out from all the bytes that ever came which packets they are, how many bytes are left, and what they break a stream by.
func wantOf(all []byte, most int) (told []api.Packet, left int, e api.Errno) {
	at := 0
	for {
		n, e := wantSize(all[at:])
		if e == api.ErrPacket {
			return told, 0, e
		}
		if e == api.OK && n > most {
			return told, 0, api.ErrBig
		}
		if e == api.ErrMore || at+n > len(all) {
			return told, len(all) - at, api.OK
		}
		p, e := packet.Parse(slices.Clone(all[at : at+n]))
		if e != api.OK {
			return told, 0, api.ErrPacket
		}
		told, at = append(told, p), at+n
	}
}

// watched is a stream each call of which is held against all that came on it.
type watched struct {
	t      *testing.T
	most   int
	stream *stream.Stream
	all    []byte
	told   int
	broken bool // by an earlier call
}

// open answers a new stream of most.
func open(t *testing.T, most int) *stream.Stream {
	t.Helper()
	s, e := stream.New(most)
	if s == nil || e != api.OK {
		t.Fatalf("New(%d): %v, %d", most, s, e)
	}
	return s
}

// watch answers a new stream that is watched.
func watch(t *testing.T, most int) *watched {
	t.Helper()
	w := &watched{t: t, most: most, stream: open(t, most)}
	w.holdLeft(0)
	return w
}

// holdLeft holds how many bytes are left, asked twice: asking changes nothing.
func (w *watched) holdLeft(want int) {
	w.t.Helper()
	for range 2 {
		if n := w.stream.Left(); n != want {
			w.t.Fatalf("of %d, behind %.80x: Left: %d, not %d", w.most, w.all, n, want)
		}
	}
}

// feed feeds bytes, and holds all that is answered against the model.
func (w *watched) feed(b ...byte) ([]api.Packet, api.Errno) {
	w.t.Helper()
	w.all = append(w.all, b...)
	all, left, wantErr := wantOf(w.all, w.most)
	want := all[w.told:]
	if w.broken {
		want = nil
	}
	out, e := w.stream.Feed(b)
	if !sameAll(out, want) || e != wantErr {
		w.t.Fatalf("of %d, behind %.80x: %s, %d, not %s, %d", w.most, w.all, brief(out), e, brief(want), wantErr)
	}
	w.told, w.broken = len(all), wantErr != api.OK
	w.holdLeft(left)
	return out, e
}

// tells feeds bytes, which are to tell just these packets, and to leave that many bytes.
func (w *watched) tells(b []byte, left int, want ...api.Packet) {
	w.t.Helper()
	out, e := w.feed(b...)
	if !sameAll(out, want) || e != api.OK {
		w.t.Fatalf("of %d: Feed(%.80x): %s, %d, not %s", w.most, b, brief(out), e, brief(want))
	}
	w.holdLeft(left)
}

// breaks feeds bytes, which are to be answered by that error, with just these packets, and holds that the stream stays broken by it.
func (w *watched) breaks(b []byte, why api.Errno, want ...api.Packet) {
	w.t.Helper()
	out, e := w.feed(b...)
	if !sameAll(out, want) || e != why {
		w.t.Fatalf("of %d: Feed(%.80x): %s, %d, not %s and %d", w.most, b, brief(out), e, brief(want), why)
	}
	w.holdLeft(0)
	for _, more := range [][]byte{nil, {}, {0xc0}, {0}, fromHex("c0 00"), fromHex("c1 00"), fromHex("30 80 00"), fromHex("30 ff ff ff 7f"), bytesOf(knowns()), make([]byte, 600), b} {
		out, e := w.stream.Feed(more)
		if len(out) != 0 || e != why {
			w.t.Fatalf("broken by %d: Feed(%.80x): %s, %d", why, more, brief(out), e)
		}
		w.holdLeft(0)
	}
}
