package stream_test

import (
	"math/rand"
	"slices"
	"testing"

	"bascule/api"
	"bascule/packet"
)

// everyParting feeds the same bytes to new streams, parted in every way that there is, each call held against the model, and holds that each time just these packets were told in all, and that the last call answered that error.
func everyParting(t *testing.T, most int, b []byte, packets []api.Packet, end api.Errno) {
	t.Helper()
	for cuts := range 1 << (len(b) - 1) {
		w, from := watch(t, most), 0
		var told []api.Packet
		var last api.Errno
		for k := 1; k <= len(b); k++ {
			if k < len(b) && cuts>>(k-1)&1 == 0 {
				continue
			}
			out, e := w.feed(b[from:k]...)
			told, last, from = append(told, out...), e, k
		}
		if !sameAll(told, packets) || last != end {
			t.Fatalf("of %d: %x, parted by %b: %s, %d", most, b, cuts, brief(told), last)
		}
	}
}

// P11.3: packets, whole and with a piece behind them, parted in every way, are told as they were, in their order.
func TestEveryParting(t *testing.T) {
	for _, k := range knowns() {
		if len(k.b) > 12 {
			continue
		}
		everyParting(t, len(k.b), k.b, []api.Packet{k.p}, api.OK)
	}
	ping, leave, ack := api.Packet{Type: 12}, api.Packet{Type: 14}, api.Packet{Type: 4, Id: 258}
	everyParting(t, 100, fromHex("c0 00 e0 00 40 02 01 02 c0 00 e0"), []api.Packet{ping, leave, ack, ping}, api.OK)
	everyParting(t, 4, fromHex("40 02 01 02 c0 00 30 80 80 80"), []api.Packet{ack, ping}, api.OK)
	everyParting(t, 9, fromHex("32 07 00 01 61 00 0a 68 69 e0 00"), []api.Packet{{Type: 3, Msg: api.Message{Topic: "a", Payload: "hi", Qos: 1}, Id: 10}, leave}, api.OK)
}

// P11.3: bytes that break a stream, at its start and behind packets, with others behind them, parted in every way, break it at the same place by the same error.
func TestEveryPartingOfBroken(t *testing.T) {
	for _, x := range []struct {
		wrong []byte
		most  int
		why   api.Errno
	}{
		{fromHex("30 80 00"), 100, api.ErrPacket},
		{fromHex("30 80 80 00"), 2, api.ErrPacket},
		{fromHex("30 80 80 80 00"), 4, api.ErrPacket},
		{fromHex("30 ff ff ff ff"), 100, api.ErrPacket},
		{fromHex("30 63"), 100, api.ErrBig},
		{fromHex("f0 ff 01"), 257, api.ErrBig},
		{fromHex("30 80 80 01"), 16387, api.ErrBig},
		{fromHex("30 ff ff ff 7f"), longest - 1, api.ErrBig},
		{fromHex("c1 00"), 2, api.ErrPacket},
		{fromHex("40 02 00 00"), 100, api.ErrPacket},
		{fromHex("00 03 00 01 61"), 100, api.ErrPacket},
	} {
		ping := api.Packet{Type: 12}
		everyParting(t, x.most, x.wrong, nil, x.why)
		everyParting(t, x.most, joined(x.wrong, fromHex("c0 00 c1 00")), nil, x.why)
		everyParting(t, x.most, joined(fromHex("c0 00 c0 00"), x.wrong), []api.Packet{ping, ping}, x.why)
		everyParting(t, x.most, joined(fromHex("c0 00"), x.wrong, fromHex("c0 00")), []api.Packet{ping}, x.why)
	}
}

// P11.3: long bytes, those that break a stream among them, parted at each place into two, and into parts of each size, told alike.
func TestPartingsOfLong(t *testing.T) {
	whole := bytesOf(knowns())
	none := joined(whole, fromHex("30 80 00 01 02"))
	big := joined(whole, fromHex("30 80 80 01 02"))
	wrong := joined(whole, fromHex("e1 00 c0"))
	for _, b := range [][]byte{whole, whole[:len(whole)-1], none, big, wrong, joined(none, whole), joined(big, whole)} {
		for n := range len(b) + 1 {
			w := watch(t, 300)
			w.feed(b[:n]...)
			w.feed(b[n:]...)
		}
		for _, size := range []int{1, 2, 3, 4, 5, 6, 7, 8, 9, 20, 100, 202, 203, 204, 300} {
			w := watch(t, 300)
			for part := range slices.Chunk(b, size) {
				w.feed(part...)
			}
		}
	}
}

// P11.3: one long packet in many parts, byte by byte among them, with packets ahead of it and behind it.
func TestOneLongInManyParts(t *testing.T) {
	list := []known{knowns()[0], publish(1000000), knowns()[1]}
	b := bytesOf(list)
	for _, size := range []int{1, 2, 3, 7, 100, 65536, 999999, 1000000} {
		s := open(t, 1000004)
		var told []api.Packet
		came := 0
		for part := range slices.Chunk(b, size) {
			out, e := s.Feed(part)
			told, came = append(told, out...), came+len(part)
			in := len(bytesOf(list[:len(told)]))
			if e != api.OK || s.Left() != came-in {
				t.Fatalf("parts of %d, behind %d bytes: %s, %d, %d left", size, came, brief(told), e, s.Left())
			}
		}
		if !sameAll(told, packetsOf(list)) {
			t.Fatalf("parts of %d: %s", size, brief(told))
		}
	}
}

// drawn answers a packet that may be, of any type.
func drawn(r *rand.Rand) api.Packet {
	list := knowns()
	p := list[r.Intn(len(list))].p
	if p.Id > 0 {
		p.Id = 1 + r.Intn(65535)
	}
	if p.Type == api.Publish {
		p.Msg.Payload = publish(3 + r.Intn(1+r.Intn(40000))).p.Msg.Payload
	}
	return p
}

// P11.3: what packet.Bytes laid down is told as it was, in its order, however it is parted.
func TestLaidIsTold(t *testing.T) {
	r := rand.New(rand.NewSource(3))
	s := open(t, 65536)
	for range 500 {
		var sent, told []api.Packet
		var b []byte
		for range 1 + r.Intn(30) {
			p := drawn(r)
			laid, e := packet.Bytes(p)
			if e != api.OK {
				t.Fatalf("Bytes(%v): %d", p, e)
			}
			sent, b = append(sent, p), append(b, laid...)
		}
		for len(b) > 0 {
			n := min(len(b), 1+r.Intn(1+r.Intn(20000)))
			out, e := s.Feed(b[:n])
			if e != api.OK {
				t.Fatalf("Feed: %d", e)
			}
			told, b = append(told, out...), b[n:]
		}
		if !sameAll(told, sent) || s.Left() != 0 {
			t.Fatalf("%s told of %s, %d left", brief(told), brief(sent), s.Left())
		}
	}
}
