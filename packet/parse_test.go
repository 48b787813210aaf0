package packet_test

import (
	"bytes"
	"math/rand"
	"slices"
	"strings"
	"testing"
)

// P10.2: bytes that are no packet, written out by hand, by what is wrong.
func TestNoBytes(t *testing.T) {
	for what, rows := range map[string][]string{
		"a packet's beginning": {"", "c0", "30", "10", "10 0d", "32 07", "40 02", "40 02 00", "82 06 0001 000161"},
		"no type":              {"00 00", "f0 00", "00 02 0001", "f0 02 0001", "f2 02 0001", "0f 00", "ff 00"},
		"a type's flags":       {"c1 00", "c2 00", "c8 00", "d1 00", "e1 00", "e2 00", "11 0c 00044d515454 04 00 0000 0000", "12 0c 00044d515454 04 00 0000 0000", "21 02 00 00", "41 02 0001", "42 02 0001", "52 02 0001", "60 02 0001", "61 02 0001", "63 02 0001", "66 02 0001", "6a 02 0001", "72 02 0001", "80 06 0001 000161 00", "83 06 0001 000161 00", "8a 06 0001 000161 00", "92 03 0001 00", "a0 05 0001 000161", "a3 05 0001 000161", "b2 02 0001"},
		"a Publish's flags":    {"36 05 000161 0001", "37 05 000161 0001", "3e 05 000161 0001", "3f 05 000161 0001", "38 03 000161", "39 03 000161", "38 05 000161 0001"},
		"a length":             {"c0 80 00", "c0 80 80 00", "c0 80 80 80 00", "c0 80 80 80 80 00", "40 82 00 0001", "40 82 80 00 0001", "40 82 80 80 00 0001", "40 82 80 80 80 00 0001", "c0 80", "c0 80 80 80", "c0 80 80 80 80", "c0 ff ff ff ff", "c0 ff ff ff 7f"},
		"too few bytes":        {"c0 01", "d0 01", "40 03 0001", "31 06 0003612f62", "82 07 0001 000161 00", "90 04 0001 00", "20 03 00 00", "b0 01 00", "b0 00", "40 00", "50 01 01", "62 00", "70 01 00", "20 00", "20 01 00", "90 00", "90 01 00", "80 00", "82 00", "82 01 00", "a2 00", "a2 01 00", "10 00", "30 00", "30 01 00", "30 02 0001", "32 03 000161", "32 04 000161 00"},
		"too many bytes":       {"c0 00 00", "c0 00 c0", "c0 00 c0 00", "c0 01 00", "d0 01 00", "e0 01 00", "e0 00 00", "40 02 0001 00", "40 03 0001 00", "62 03 0001 00", "b0 04 0001 0002", "20 03 00 00 00", "20 02 00 00 00", "10 0d 00044d515454 04 00 0000 0000 00", "10 0e 00044d515454 04 00 0000 0000 0000"},
		"an Id":                {"40 02 0000", "50 02 0000", "62 02 0000", "70 02 0000", "b0 02 0000", "32 05 000161 0000", "34 05 000161 0000", "3b 05 000161 0000", "82 06 0000 000161 00", "90 03 0000 00", "a2 05 0000 000161"},
		"a topic":              {"30 02 0000", "31 02 0000", "32 04 0000 0001", "30 03 0000 61", "30 03 0001 ff", "30 03 0001 00", "30 04 0002 c080", "30 05 0003 eda080", "30 03 0002 61", "30 04 ffff 6161"},
		"filters":              {"82 02 0001", "a2 02 0001", "82 05 0001 0000 00", "a2 04 0001 0000", "82 06 0001 0001ff 00", "82 06 0001 000100 00", "a2 05 0001 0001ff", "a2 05 0001 000100", "82 05 0001 000161", "82 0a 0001 000161 00 0000 0000", "82 08 0001 000161 00 0001", "82 07 0001 000161 00 00", "82 0a 0001 000161 00 0001ff 00", "a2 06 0001 000161 00", "a2 07 0001 000161 0000", "a2 07 0001 000161 0001", "a2 05 0001 000261"},
		"a filter's quality":   {"82 06 0001 000161 03", "82 06 0001 000161 04", "82 06 0001 000161 80", "82 06 0001 000161 ff", "82 0a 0001 000161 03 000162 00", "82 0a 0001 000161 00 000162 03", "a2 06 0001 000161 01"},
		"codes of a Suback":    {"90 02 0001", "90 03 0001 03", "90 03 0001 7f", "90 03 0001 81", "90 03 0001 ff", "90 04 0001 00 03", "90 04 0001 03 00"},
		"a Connack":            {"20 02 02 00", "20 02 03 00", "20 02 80 00", "20 02 ff 00", "20 02 01 01", "20 02 01 05", "20 02 00 06", "20 02 00 80", "20 02 00 ff", "20 02 01 06", "20 03 00 00 00"},
	} {
		t.Run(what, func(t *testing.T) {
			for _, digits := range rows {
				b := fromHex(t, digits)
				noBytes(t, b)
				holdBytes(t, b)
			}
		})
	}
	noBytes(t, nil)
	noBytes(t, []byte{})
}

// P10.2: Connects that are none, written out by hand, by what is wrong.
func TestNoConnect(t *testing.T) {
	for what, rows := range map[string][]string{
		"the protocol's name":   {"10 0d 00044d515453 04 02 003c 000161", "10 0d 00046d717474 04 02 003c 000161", "10 0f 00064d5149736470 03 02 003c 0001", "10 11 00064d5149736470 04 02 003c 000161", "10 0c 00034d5154 04 02 003c 000161", "10 09 0000 04 02 003c 000161", "10 0e 00054d51545454 04 02 003c 000161", "10 0d 00054d515454 04 02 003c 000161", "10 0d 00034d515454 04 02 003c 000161"},
		"the protocol's number": {"10 0d 00044d515454 03 02 003c 000161", "10 0d 00044d515454 05 02 003c 000161", "10 0d 00044d515454 00 02 003c 000161", "10 0d 00044d515454 84 02 003c 000161", "10 0d 00044d515454 ff 02 003c 000161"},
		"the lowest bit":        {"10 0d 00044d515454 04 01 003c 000161", "10 0d 00044d515454 04 03 003c 000161", "10 13 00044d515454 04 07 003c 000161 000177 000178"},
		"a will's bits":         {"10 0d 00044d515454 04 0a 003c 000161", "10 0d 00044d515454 04 12 003c 000161", "10 0d 00044d515454 04 1a 003c 000161", "10 0d 00044d515454 04 22 003c 000161", "10 0d 00044d515454 04 08 003c 000161", "10 0d 00044d515454 04 20 003c 000161", "10 0d 00044d515454 04 32 003c 000161", "10 13 00044d515454 04 1c 003c 000161 000177 000178"},
		"a pass without a user": {"10 0d 00044d515454 04 42 003c 000161", "10 10 00044d515454 04 42 003c 000161 000170", "10 13 00044d515454 04 42 003c 000161 000175 000170"},
		"a will":                {"10 11 00044d515454 04 04 003c 000161 0000 0000", "10 12 00044d515454 04 04 003c 000161 0000 000178", "10 12 00044d515454 04 04 003c 000161 0001ff 0000", "10 10 00044d515454 04 04 003c 000161 000177", "10 0d 00044d515454 04 04 003c 000161", "10 12 00044d515454 04 04 003c 000161 000177 0001"},
		"a text":                {"10 0d 00044d515454 04 02 003c 0001ff", "10 0d 00044d515454 04 02 003c 000100", "10 0d 00044d515454 04 02 003c 000261", "10 0d 00044d515454 04 02 003c 000061", "10 10 00044d515454 04 82 003c 000161 0001ff", "10 10 00044d515454 04 82 003c 000161 000100", "10 0d 00044d515454 04 82 003c 000161", "10 10 00044d515454 04 c2 003c 000161 000175", "10 13 00044d515454 04 c2 003c 000161 000175 000270", "10 13 00044d515454 04 82 003c 000161 000175 000170"},
		"what is missing":       {"10 00", "10 06 00044d515454", "10 07 00044d515454 04", "10 08 00044d515454 04 02", "10 09 00044d515454 04 02 00", "10 0a 00044d515454 04 02 003c", "10 0b 00044d515454 04 02 003c 00"},
	} {
		t.Run(what, func(t *testing.T) {
			for _, digits := range rows {
				b := fromHex(t, digits)
				noBytes(t, b)
				holdBytes(t, b)
			}
		})
	}
}

// P10.2: every byte of a Connect's marks, with all that could stand by them, by the model.
func TestEveryMark(t *testing.T) {
	taken := 0
	for has := range 256 {
		for texts := range 6 {
			s := "\x00\x04MQTT\x04" + string([]byte{byte(has)}) + "\x00\x3c" + strings.Repeat("\x00\x01a", texts)
			if holdBytes(t, []byte("\x10"+wantLength(len(s))+s)) {
				taken++
			}
		}
	}
	// Clean or not; no will, or one of three qualities, kept or not; nobody, a user, or one with a pass.
	if taken != 2*7*3 {
		t.Errorf("%d marks are taken", taken)
	}
}

// P10.2: every first byte ahead of what stands behind that of each packet, by the model.
func TestEveryFirstByte(t *testing.T) {
	for _, x := range knowns() {
		b := fromHex(t, x.digits)
		for first := range 256 {
			b[0] = byte(first)
			holdBytes(t, b)
		}
	}
}

// P10.2: packets that lack their last bytes, whether the length says so or not.
func TestCut(t *testing.T) {
	for _, x := range knowns() {
		b := fromHex(t, x.digits)
		for n := range len(b) {
			noBytes(t, b[:n])
			if n > 1 {
				cut := slices.Clone(b[:n])
				cut[1] = byte(n - 2)
				holdBytes(t, cut)
			}
		}
	}
}

// P10.2: packets with one byte more, and with many, whether the length says so or not.
func TestLengthened(t *testing.T) {
	for _, x := range knowns() {
		b := fromHex(t, x.digits)
		for c := range 256 {
			more := append(slices.Clone(b), byte(c))
			noBytes(t, more)
			more[1]++
			holdBytes(t, more)
		}
		for _, y := range knowns() {
			more := append(slices.Clone(b), fromHex(t, y.digits)...)
			noBytes(t, more)
			more[1] = byte(len(more) - 2)
			holdBytes(t, more)
		}
	}
}

// P10.2: every other byte at the length of each packet, and every length that has the same digits in more bytes.
func TestEveryLength(t *testing.T) {
	for _, x := range knowns() {
		b := fromHex(t, x.digits)
		size := b[1]
		for c := range 256 {
			if byte(c) != size {
				b[1] = byte(c)
				noBytes(t, b)
			}
		}
		for noughts := range 6 {
			long := append([]byte{b[0], size | 128}, bytes.Repeat([]byte{128}, noughts)...)
			long = append(long, 0)
			noBytes(t, append(long, b[2:]...))
		}
	}
}

// P10.2: each byte of each packet turned into each other one, by the model.
func TestEachByteTurned(t *testing.T) {
	for _, x := range knowns() {
		b := fromHex(t, x.digits)
		for i := range b {
			for c := range 256 {
				turned := slices.Clone(b)
				turned[i] = byte(c)
				holdBytes(t, turned)
			}
		}
	}
}

// P10.2: one byte of each packet left out, and one put in, with a length that fits, by the model.
func TestByteOutAndIn(t *testing.T) {
	for _, x := range knowns() {
		b := fromHex(t, x.digits)
		for i := 2; i < len(b); i++ {
			out := slices.Delete(slices.Clone(b), i, i+1)
			out[1]--
			holdBytes(t, out)
		}
		for i := 2; i <= len(b); i++ {
			for _, c := range edgeBytes() {
				in := slices.Insert(slices.Clone(b), i, c)
				in[1]++
				holdBytes(t, in)
			}
		}
	}
}

// edgeBytes are those at the edges of flags, of words, of codes and of strings.
func edgeBytes() []byte {
	return []byte{0x00, 0x01, 0x02, 0x03, 0x04, 0x05, 0x06, 0x61, 0x7f, 0x80, 0x81, 0xa4, 0xc3, 0xff}
}

// P10.2: all rows of up to two bytes, and those of up to three behind every first byte and a length that fits, of bytes at the edges, by the model.
func TestAllShortBytes(t *testing.T) {
	for first := range 256 {
		holdBytes(t, []byte{byte(first)})
		for second := range 256 {
			holdBytes(t, []byte{byte(first), byte(second)})
		}
	}
	rows := [][]byte{{}}
	for from := 0; len(rows[from]) < 4; from++ {
		for _, c := range edgeBytes() {
			rows = append(rows, append(slices.Clone(rows[from]), c))
		}
	}
	for first := range 256 {
		for _, row := range rows {
			if len(row) < 4 || first%16 < 4 {
				holdBytes(t, append([]byte{byte(first), byte(len(row))}, row...))
			}
		}
	}
}

// P10.2: packets some bytes of which were turned, cut out and put in, at random, by the model.
func TestAtRandom(t *testing.T) {
	r := rand.New(rand.NewSource(10))
	all := packets()
	taken := 0
	for range 200000 {
		p := all[r.Intn(len(all))]
		s := []byte(wantBehind(p))
		first := byte(p.Type<<4 | wantFlags(p))
		for range r.Intn(3) {
			edges := edgeBytes()
			c := edges[r.Intn(len(edges))]
			at := r.Intn(len(s) + 1)
			switch r.Intn(4) {
			case 0:
				s = slices.Insert(s, at, c)
			case 1:
				s = slices.Delete(s, min(at, len(s)), min(at+1, len(s)))
			case 2:
				s = append(s[:min(at, len(s))], c)
			default:
				first ^= 1 << r.Intn(8)
			}
		}
		if holdBytes(t, slices.Concat([]byte{first}, []byte(wantLength(len(s))), s)) {
			taken++
		}
	}
	if taken < 50000 || taken > 150000 {
		t.Errorf("%d of 200000 are packets", taken)
	}
}

// P10.2 and R1: far more bytes than anything of them asks for.
func TestFarTooMany(t *testing.T) {
	for _, first := range []byte{0x00, 0x10, 0x20, 0x40, 0x62, 0x82, 0x90, 0xa2, 0xb0, 0xc0, 0xf0} {
		b := bytes.Repeat([]byte{0xff}, 1<<22)
		b[0] = first
		noBytes(t, b)
		s := wantLength(1<<22 - 5)
		copy(b[1:], s)
		noBytes(t, b[:1+len(s)+1<<22-5])
	}
}
