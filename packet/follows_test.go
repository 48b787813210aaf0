package packet_test

import (
	"bytes"
	"slices"
	"testing"

	"bascule/api"
	"bascule/packet"
)

// laid are the bytes of p, which may be.
func laid(t *testing.T, p api.Packet) []byte {
	t.Helper()
	b, e := packet.Bytes(p)
	if e != api.OK {
		t.Fatalf("Bytes(%v): %d", p, e)
	}
	return b
}

// parsed is the packet that b are.
func parsed(t *testing.T, b []byte) api.Packet {
	t.Helper()
	p, e := packet.Parse(b)
	if e != api.OK {
		t.Fatalf("Parse(%x): %d", b, e)
	}
	return p
}

// P10.3: what is laid down is read as itself, and may be.
func TestReadAsItself(t *testing.T) {
	for _, p := range packets() {
		q := parsed(t, laid(t, p))
		if !same(p, q) {
			t.Errorf("%v: %v", p, q)
		}
		if e := packet.Check(q); e != api.OK {
			t.Errorf("%v: %d", q, e)
		}
	}
}

// P10.3: every Id, and every Alive, is read as itself.
func TestEveryWord(t *testing.T) {
	for n := range 65536 {
		connect := api.Packet{Type: 1, Alive: n}
		if q := parsed(t, laid(t, connect)); !same(q, connect) {
			t.Fatalf("%v: %v", connect, q)
		}
		if n == 0 {
			continue
		}
		for _, p := range []api.Packet{{Type: 4, Id: n}, {Type: 6, Id: n}, {Type: 3, Id: n, Msg: api.Message{Topic: "t", Qos: 1}}, {Type: 9, Id: n, Codes: []int{2}}} {
			if q := parsed(t, laid(t, p)); !same(q, p) {
				t.Fatalf("%v: %v", p, q)
			}
		}
	}
}

// P10.3: what is read is laid down as the same bytes, among all that differ in one byte from those of a packet.
func TestLaidDownAsTheSame(t *testing.T) {
	read := 0
	for _, x := range knowns() {
		b := fromHex(t, x.digits)
		for i := range b {
			for c := range 256 {
				turned := slices.Clone(b)
				turned[i] = byte(c)
				p, e := packet.Parse(turned)
				if e != api.OK {
					continue
				}
				read++
				if again := laid(t, p); !bytes.Equal(again, turned) {
					t.Errorf("%x: %v, %x", turned, p, again)
				}
			}
		}
	}
	if read < 1000 {
		t.Errorf("only %d are packets", read)
	}
}

// P10.3: different packets have different bytes, and none are the beginning of another's.
func TestNoBeginnings(t *testing.T) {
	rows := [][]byte{}
	for _, p := range packets() {
		rows = append(rows, laid(t, p))
	}
	slices.SortFunc(rows, bytes.Compare)
	for k := 1; k < len(rows); k++ {
		// Sorted, a beginning stands ahead of those that it begins, and nothing else between them.
		if bytes.HasPrefix(rows[k], rows[k-1]) && !bytes.Equal(rows[k], rows[k-1]) {
			t.Errorf("%x begins %x", rows[k-1], rows[k])
		}
		if bytes.Equal(rows[k], rows[k-1]) && !same(parsed(t, rows[k]), parsed(t, rows[k-1])) {
			t.Errorf("%x", rows[k])
		}
	}
}

// P10.3: of the bytes of each packet no beginning is a packet, nor is what is longer.
func TestNoOtherLength(t *testing.T) {
	for k, p := range packets() {
		b := laid(t, p)
		for n := range b {
			noBytes(t, b[:n])
		}
		for _, more := range [][]byte{{0}, {1}, {0xff}, b, {0xc0, 0}} {
			noBytes(t, append(slices.Clone(b), more...))
		}
		noBytes(t, append(slices.Clone(b), byte(k)))
	}
}
