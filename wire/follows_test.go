package wire_test

import (
	"slices"
	"strings"
	"testing"

	"bascule/api"
	"bascule/wire"
)

// P1.4: every word is told as itself.
func TestEveryWordComesBack(t *testing.T) {
	for n := range api.MaxWord + 1 {
		b, e := wire.Put([]byte{9}, n)
		if len(b) != 3 || b[0] != 9 || e != api.OK {
			t.Fatalf("Put %d: %x, %d", n, b, e)
		}
		if told, e := wire.At(b, 1); told != n || e != api.OK {
			t.Fatalf("At of %d: %d, %d", n, told, e)
		}
	}
}

// P1.4: texts are told as themselves, whatever their bytes.
func TestTextsComeBack(t *testing.T) {
	every := make([]byte, 256)
	for k := range every {
		every[k] = byte(k)
	}
	for _, s := range []string{"", "a", "a/b", "\x00", "\x00\x00", "\xff\xfe", "äöü", string(every), strings.Repeat("\x00\x01", 32767), strings.Repeat("x", 65535)} {
		b, e := wire.PutText(nil, s)
		if e != api.OK {
			t.Errorf("PutText of %d bytes: %d", len(s), e)
		}
		if told, i, e := wire.TextAt(b, 0); told != s || i != len(b) || e != api.OK {
			t.Errorf("TextAt of %d bytes: %d bytes, %d, %d", len(s), len(told), i, e)
		}
	}
}

// bitsOf are the lower n bits of x, the lowest first.
func bitsOf(x uint64, n int) []int {
	bits := make([]int, n)
	for k := range bits {
		bits[k] = int(x >> k & 1)
	}
	return bits
}

// P1.4: bits are told as themselves: all lists of up to ten, and some longer ones.
func TestBitsComeBack(t *testing.T) {
	var lists [][]int
	for n := range 11 {
		for x := range uint64(1) << n {
			lists = append(lists, bitsOf(x, n))
		}
	}
	for n := range 65 {
		lists = append(lists, bitsOf(0x9e3779b97f4a7c15, n))
	}
	lists = append(lists, slices.Repeat([]int{1, 0, 0, 1, 1}, api.MaxBits/5))
	for _, bits := range lists {
		b, e := wire.Pack(bits)
		if len(b) != (len(bits)+7)/8 || e != api.OK {
			t.Fatalf("Pack(%v): %x, %d", bits, b, e)
		}
		if told, e := wire.Unpack(b, len(bits)); !slices.Equal(told, bits) || e != api.OK {
			t.Fatalf("Unpack(%x, %d): %v, %d", b, len(bits), told, e)
		}
	}
}

// item is a word, or a text if that is said.
type item struct {
	text bool
	n    int
	s    string
}

// putAll puts items one behind the other.
func putAll(t *testing.T, items []item) []byte {
	t.Helper()
	var b []byte
	for _, x := range items {
		var e api.Errno
		if x.text {
			b, e = wire.PutText(b, x.s)
		} else {
			b, e = wire.Put(b, x.n)
		}
		if e != api.OK {
			t.Fatalf("put %v: %d", x, e)
		}
	}
	return b
}

// tellAll holds that b tells the items one by one, and answers the place behind the last one.
func tellAll(t *testing.T, b []byte, items []item) int {
	t.Helper()
	at := 0
	for _, x := range items {
		if !x.text {
			if n, e := wire.At(b, at); n != x.n || e != api.OK {
				t.Errorf("At %d: %d, %d, not %d", at, n, e, x.n)
			}
			at += 2
			continue
		}
		s, next, e := wire.TextAt(b, at)
		if s != x.s || next != at+2+len(x.s) || e != api.OK {
			t.Errorf("TextAt %d: %d bytes, %d, %d, not %d bytes", at, len(s), next, e, len(x.s))
		}
		at = next
	}
	return at
}

// P1.4: words and texts one behind the other are told one by one, and nothing is left.
func TestOneBehindTheOther(t *testing.T) {
	for _, items := range [][]item{
		nil,
		{{n: 0}},
		{{text: true}},
		{{n: 65535}, {n: 0}, {n: 258}},
		{{text: true, s: "ab"}, {text: true}, {text: true, s: "\x00\x02ab"}},
		{{n: 2}, {text: true, s: "ab"}, {n: 0}, {text: true}, {n: 65535}, {text: true, s: strings.Repeat("q", 65535)}, {n: 7}, {text: true, s: "end"}},
	} {
		b := putAll(t, items)
		at := tellAll(t, b, items)
		if at != len(b) {
			t.Errorf("%d items: told %d of %d bytes", len(items), at, len(b))
		}
		if _, e := wire.At(b, at); e != api.ErrMore {
			t.Errorf("%d items: a word behind the end: %d", len(items), e)
		}
		if _, _, e := wire.TextAt(b, at); e != api.ErrMore {
			t.Errorf("%d items: a text behind the end: %d", len(items), e)
		}
	}
}
