package packet_test

import (
	"bytes"
	"slices"
	"testing"

	"bascule/api"
	"bascule/packet"
)

// overwrite turns every byte of b, and of its room.
func overwrite(b []byte) {
	b = b[:cap(b)]
	for k := range b {
		b[k] ^= 0x55
	}
}

// turn turns every element of a packet's lists, and of their room.
func turn(p api.Packet) {
	for k := range p.Codes[:cap(p.Codes)] {
		p.Codes[:cap(p.Codes)][k] ^= 0x55
	}
	for k := range p.Subs[:cap(p.Subs)] {
		p.Subs[:cap(p.Subs)][k] = api.Sub{Filter: "turned", Qos: 77}
	}
}

// R2: Check and Bytes write neither into lists nor into their spare room, whatever they answer, and do not read that room.
func TestLayingLeavesTheLists(t *testing.T) {
	for _, kind := range []int{1, 2, 8, 9, 10, 12, 15} {
		for many := range 4 {
			codes := []int{0, 1, 128, 999, -1, 888}
			subs := []api.Sub{{Filter: "a", Qos: many % 2}, {Filter: "b"}, {Filter: "c"}, {Filter: "\xff", Qos: 99}, {}}
			p := api.Packet{Type: kind, Id: 1, Codes: codes[:many], Subs: subs[:many]}
			switch kind {
			case 2:
				p.Id, p.Subs = 0, nil
			case 8, 10:
				p.Codes = nil
			case 9:
				p.Subs = nil
			}
			wasCodes, wasSubs := slices.Clone(codes), slices.Clone(subs)
			holdPacket(t, p)
			if !slices.Equal(codes, wasCodes) || !slices.Equal(subs, wasSubs) {
				t.Errorf("wrote into the lists of type %d: %v, %v", kind, codes, subs)
			}
		}
	}
}

// R2: lists that were handed in are not kept: turned, they turn no bytes that were laid down, and are laid down as what they are now.
func TestListsAreNotKept(t *testing.T) {
	codes := []int{1, 2}
	subs := []api.Sub{{Filter: "a"}, {Filter: "b"}}
	grant, names := api.Packet{Type: 9, Id: 1, Codes: codes}, api.Packet{Type: 8, Id: 1, Subs: subs}
	one, two := laid(t, grant), laid(t, names)
	codes[0], subs[1] = 128, api.Sub{Filter: "c", Qos: 2}
	if !bytes.Equal(one, fromHex(t, "90 04 0001 01 02")) || !bytes.Equal(two, fromHex(t, "82 0a 0001 000161 00 000162 00")) {
		t.Errorf("%x, %x", one, two)
	}
	one, two = laid(t, grant), laid(t, names)
	if !bytes.Equal(one, fromHex(t, "90 04 0001 80 02")) || !bytes.Equal(two, fromHex(t, "82 0a 0001 000161 00 000163 02")) {
		t.Errorf("%x, %x", one, two)
	}
}

// R2: Parse writes neither into the bytes nor into their spare room, whatever it answers, and does not read that room.
func TestReadingLeavesTheBytes(t *testing.T) {
	for _, x := range knowns() {
		b := fromHex(t, x.digits)
		whole := append(slices.Clone(b), b...)
		before := slices.Clone(whole)
		for n := range len(whole) + 1 {
			p, e := packet.Parse(whole[:n])
			if n == len(b) && (!same(p, x.p) || e != api.OK) || n != len(b) && (!none(p) || e != api.ErrPacket) {
				t.Errorf("Parse(%x): %v, %d", whole[:n], p, e)
			}
		}
		if !bytes.Equal(whole, before) {
			t.Errorf("wrote into the bytes: %x, which were %x", whole, before)
		}
	}
}

// R2: bytes that were handed in are not kept: turned, they turn no packet that was read.
func TestBytesAreNotKept(t *testing.T) {
	for _, x := range knowns() {
		b := fromHex(t, x.digits)
		p := parsed(t, b)
		overwrite(b)
		if !same(p, x.p) {
			t.Errorf("%s: %v", x.digits, p)
		}
	}
}

// R2: bytes that were laid down are the caller's own: turned, they turn no packet and no other bytes.
func TestBytesAreTheCallersOwn(t *testing.T) {
	for _, x := range knowns() {
		want := fromHex(t, x.digits)
		early, turned := laid(t, x.p), laid(t, x.p)
		overwrite(turned)
		late := laid(t, x.p)
		if !bytes.Equal(early, want) || !bytes.Equal(late, want) {
			t.Errorf("%s: %x and %x", x.digits, early, late)
		}
		if one, two := append(early, 0xaa), append(late, 0xbb); one[len(want)] != 0xaa || two[len(want)] != 0xbb {
			t.Errorf("%s: what is added behind one stands behind the other", x.digits)
		}
	}
}

// R2: lists of a packet that was read are the caller's own: turned, they turn no other packet, read before or behind, nor the bytes.
func TestPacketsAreTheCallersOwn(t *testing.T) {
	for _, x := range knowns() {
		b := fromHex(t, x.digits)
		early, turned := parsed(t, b), parsed(t, b)
		turn(turned)
		late := parsed(t, b)
		if !same(early, x.p) || !same(late, x.p) || !bytes.Equal(b, fromHex(t, x.digits)) {
			t.Errorf("%s: %v and %v", x.digits, early, late)
		}
	}
}

// R2: the same call answers the same, whatever was called between, refused or not.
func TestSameCallSameAnswer(t *testing.T) {
	for range 2 {
		for _, x := range knowns() {
			packet.Check(api.Packet{Type: 15})
			packet.Bytes(api.Packet{Type: 1, User: "u"})
			packet.Parse([]byte("\x82\x0a\x00\x01\x00\x01a\x00\x00\x01b\x03"))
			packet.Parse([]byte("\x10\x0d\x00\x04MQTT"))
			isPacket(t, x.p, fromHex(t, x.digits))
		}
	}
}
