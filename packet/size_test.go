package packet_test

import (
	"bytes"
	"slices"
	"strings"
	"testing"

	"bascule/api"
	"bascule/packet"
)

// maxRemain is the greatest length that may be.
const maxRemain = 268435455

// lengthEdges are lengths at which the bytes of a length become more, with these bytes written out by hand.
func lengthEdges() map[int]string {
	return map[int]string{
		127: "7f", 128: "80 01", 129: "81 01", 16383: "ff 7f", 16384: "80 80 01", 16385: "81 80 01",
		2097151: "ff ff 7f", 2097152: "80 80 80 01", 2097153: "81 80 80 01",
	}
}

// holdSize holds that size bytes stand behind the length of p, and that p is laid down and read as it is.
func holdSize(t *testing.T, p api.Packet, size int, digits string) {
	t.Helper()
	isPacket(t, p, wantBytes(p))
	b, _ := packet.Bytes(p)
	length := fromHex(t, digits)
	if !bytes.HasPrefix(b[1:], length) || len(b) != 1+len(length)+size {
		t.Fatalf("type %d: %x, %d bytes, not %s and %d", p.Type, b[:6], len(b), digits, size)
	}
}

// P10.1 and P10.2: Publishes and Subacks behind whose lengths as many bytes stand as make a length one byte longer.
func TestLengthsOfPublishAndSuback(t *testing.T) {
	for size, digits := range lengthEdges() {
		holdSize(t, api.Packet{Type: 3, Msg: api.Message{Topic: "a", Payload: strings.Repeat("p", size-3)}}, size, digits)
		holdSize(t, api.Packet{Type: 3, Id: 7, Msg: api.Message{Topic: "abc", Payload: strings.Repeat("\x00", size-7), Qos: 2}}, size, digits)
		holdSize(t, api.Packet{Type: 9, Id: 7, Codes: slices.Repeat([]int{128}, size-2)}, size, digits)
	}
}

// filters are as many as have size bytes with one byte or none by each, as texts.
func filters(size, by int) []api.Sub {
	var subs []api.Sub
	for size > 0 {
		n := size
		if n > 60000 {
			n = 50000
		}
		subs = append(subs, api.Sub{Filter: strings.Repeat("f", n-2-by), Qos: by * (n % 3)})
		size -= n
	}
	return subs
}

// P10.1 and P10.2: Subscribes and Unsubscribes of such lengths.
func TestLengthsOfFilters(t *testing.T) {
	for size, digits := range lengthEdges() {
		holdSize(t, api.Packet{Type: 8, Id: 258, Subs: filters(size-2, 1)}, size, digits)
		holdSize(t, api.Packet{Type: 10, Id: 258, Subs: filters(size-2, 0)}, size, digits)
	}
}

// P10.1 and P10.2: Connects of such lengths, as far as a Connect may be that long, and the longest one.
func TestLengthsOfConnect(t *testing.T) {
	for size, digits := range lengthEdges() {
		if size > 60000 {
			continue
		}
		holdSize(t, api.Packet{Type: 1, Client: strings.Repeat("c", size-12)}, size, digits)
		holdSize(t, api.Packet{Type: 1, HasWill: true, Msg: api.Message{Topic: "w", Payload: strings.Repeat("\xff", size-17)}}, size, digits)
		holdSize(t, api.Packet{Type: 1, HasUser: true, User: "u", HasPass: true, Pass: strings.Repeat("\x00", size-17)}, size, digits)
	}
	most := strings.Repeat("m", 65535)
	holdSize(t, api.Packet{Type: 1, Client: most, HasWill: true, Msg: api.Message{Topic: most, Payload: most}, HasUser: true, User: most, HasPass: true, Pass: most}, 10+5*65537, "8f 80 14")
}

// P10.1 and P10.2: a Publish behind whose length MaxRemain bytes stand may be, and comes back; one byte more is refused.
func TestLongestPublish(t *testing.T) {
	payload := strings.Repeat("p", maxRemain-2)
	for _, x := range []struct {
		m  api.Message
		id int
	}{
		{api.Message{Topic: "a"}, 0}, {api.Message{Topic: "abcde"}, 0}, {api.Message{Topic: "a", Qos: 1}, 1}, {api.Message{Topic: "a", Qos: 2, Retain: true}, 65535},
	} {
		room := maxRemain - 2 - len(x.m.Topic) - 2*min(x.m.Qos, 1)
		p := api.Packet{Type: 3, Id: x.id, Msg: x.m}
		p.Msg.Payload = payload[:room]
		if e := packet.Check(p); e != api.OK {
			t.Errorf("%d bytes, %v: %d", room, x.m, e)
		}
		for _, more := range []int{1, 2} {
			p.Msg.Payload = payload[:min(room+more, len(payload))]
			noPacket(t, p)
		}
	}
	p := api.Packet{Type: 3, Msg: api.Message{Topic: "a", Payload: payload[:maxRemain-3]}}
	b, e := packet.Bytes(p)
	if len(b) != 5+maxRemain || string(b[:9]) != "\x30\xff\xff\xff\x7f\x00\x01ap" || e != api.OK {
		t.Fatalf("%d bytes, %d", len(b), e)
	}
	if q, e := packet.Parse(b); !same(q, p) || e != api.OK {
		t.Errorf("%d bytes, %d", len(q.Msg.Payload), e)
	}
	noBytes(t, b[:len(b)-1])
	noBytes(t, append(b, 'p'))
}

// P10.1: a Suback behind whose length MaxRemain bytes stand may be; with one code more it may not.
func TestLongestSuback(t *testing.T) {
	// Noughts that were never written take no memory of their own, many as they are.
	codes := make([]int, maxRemain)
	if e := packet.Check(api.Packet{Type: 9, Id: 1, Codes: codes[:maxRemain-2]}); e != api.OK {
		t.Errorf("%d", e)
	}
	noPacket(t, api.Packet{Type: 9, Id: 1, Codes: codes[:maxRemain-1]})
	noPacket(t, api.Packet{Type: 9, Id: 1, Codes: codes})
}

// P10.1 and P10.2: a Subscribe and an Unsubscribe behind whose lengths MaxRemain bytes stand may be; with one byte more they may not.
func TestLongestFilters(t *testing.T) {
	f := strings.Repeat("f", 65535)
	for _, x := range []struct{ kind, by int }{{8, 1}, {10, 0}} {
		each := 2 + len(f) + x.by
		many := (maxRemain - 2) / each
		last := (maxRemain-2)%each - 2 - x.by
		subs := append(slices.Repeat([]api.Sub{{Filter: f}}, many), api.Sub{Filter: f[:last]})
		p := api.Packet{Type: x.kind, Id: 1, Subs: subs}
		if e := packet.Check(p); e != api.OK {
			t.Errorf("type %d: %d", x.kind, e)
		}
		subs[many].Filter = f[:last+1]
		noPacket(t, p)
		subs[many].Filter = f[:last-3]
		p.Subs = append(subs, api.Sub{Filter: "g"})
		if e := packet.Check(p); x.kind == 10 && e != api.OK || x.kind == 8 && e != api.ErrArg {
			t.Errorf("type %d: %d", x.kind, e)
		}
	}
}

// P10.1 and R1: many filters that lie in the same bytes, far more than a packet has room for, are refused.
func TestFarTooManyFilters(t *testing.T) {
	subs := slices.Repeat([]api.Sub{{Filter: strings.Repeat("f", 65535)}}, 1<<20)
	noPacket(t, api.Packet{Type: 8, Id: 1, Subs: subs})
	noPacket(t, api.Packet{Type: 10, Id: 1, Subs: subs})
}
