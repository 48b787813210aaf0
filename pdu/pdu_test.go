package pdu_test

import (
	"bytes"
	"math"
	"slices"
	"testing"

	"bascule/api"
	"bascule/pdu"
)

// oddBits are n bits, in no order that repeats itself by bytes.
func oddBits(n int) []int {
	bits := make([]int, n)
	for k := range bits {
		bits[k] = (k*k/7 + k/3) % 2
	}
	return bits
}

// oddWords are n words whose two bytes are unlike.
func oddWords(n int) []int {
	words := make([]int, n)
	for k := range words {
		words[k] = (k*40503 + 258) % 65536
	}
	return words
}

// requests are some that may be: ordinary ones of each function, and those at the edges of Addr, Count, Values, To.
func requests() []api.Request {
	var all []api.Request
	for _, f := range functions {
		s := shapes[f]
		for _, many := range []int{1, 2, 7, 8, 9, 16, 17, 120, 121, 122, 123, 124, 125, 1967, 1968, 1999, 2000} {
			for _, at := range []int{0, 1, 255, 256, 4660, 65536 - many} {
				r := api.Request{Func: f, Addr: at}
				if s.mostCount > 0 {
					r.Count = many
				}
				if s.mostValues > 0 && s.top == 1 {
					r.Values = oddBits(min(many, s.mostValues))
				} else {
					r.Values = oddWords(min(many, s.mostValues))
				}
				if s.to {
					r.To = 65536 - len(r.Values) - at%3
				}
				if s.masks {
					r.And, r.Or = 65535-at, at
				}
				if may(r) {
					all = append(all, r)
				}
			}
		}
	}
	return all
}

// holdRequest holds what Check and Bytes say of a request against the table.
func holdRequest(t *testing.T, r api.Request) {
	t.Helper()
	if !may(r) {
		b, e := pdu.Bytes(r)
		if c := pdu.Check(r); c != api.ErrArg || e != api.ErrArg || len(b) != 0 {
			t.Fatalf("%+v: Check %d, Bytes %x, %d", r, c, b, e)
		}
		return
	}
	if c := pdu.Check(r); c != api.OK {
		t.Fatalf("%+v: Check %d", r, c)
	}
	if b, e := pdu.Bytes(r); !bytes.Equal(b, wantBytes(t, r)) || e != api.OK {
		t.Fatalf("%+v: %x, %d, not %x", r, b, e, wantBytes(t, r))
	}
}

// P3.1: requests written out by hand, as bytes and back.
func TestRequestsByHand(t *testing.T) {
	for _, x := range []struct {
		r      api.Request
		digits string
	}{
		{api.Request{Func: 1, Addr: 19, Count: 37}, "01 0013 0025"},
		{api.Request{Func: 2, Addr: 196, Count: 2000}, "02 00c4 07d0"},
		{api.Request{Func: 3, Addr: 16, Count: 2}, "03 0010 0002"},
		{api.Request{Func: 4, Addr: 65411, Count: 125}, "04 ff83 007d"},
		{api.Request{Func: 5, Addr: 1, Values: []int{1}}, "05 0001 ff00"},
		{api.Request{Func: 5, Addr: 65535, Values: []int{0}}, "05 ffff 0000"},
		{api.Request{Func: 6, Addr: 1, Values: []int{3}}, "06 0001 0003"},
		{api.Request{Func: 6, Addr: 65535, Values: []int{65535}}, "06 ffff ffff"},
		{api.Request{Func: 15, Addr: 19, Count: 10, Values: []int{1, 0, 1, 1, 0, 0, 1, 1, 1, 0}}, "0f 0013 000a 02 cd01"},
		{api.Request{Func: 15, Addr: 65535, Count: 1, Values: []int{1}}, "0f ffff 0001 01 01"},
		{api.Request{Func: 16, Addr: 1, Count: 2, Values: []int{10, 258}}, "10 0001 0002 04 000a 0102"},
		{api.Request{Func: 22, Addr: 4, And: 242, Or: 37}, "16 0004 00f2 0025"},
		{api.Request{Func: 22}, "16 0000 0000 0000"},
		{api.Request{Func: 22, Addr: 65535, And: 65535, Or: 65535}, "16 ffff ffff ffff"},
		{api.Request{Func: 23, Addr: 3, Count: 6, To: 14, Values: []int{255, 65280, 7}}, "17 0003 0006 000e 0003 06 00ff ff00 0007"},
		{api.Request{Func: 23, Addr: 65535, Count: 1, To: 65535, Values: []int{0}}, "17 ffff 0001 ffff 0001 02 0000"},
	} {
		want := fromHex(t, x.digits)
		if b, e := pdu.Bytes(x.r); !bytes.Equal(b, want) || e != api.OK || pdu.Check(x.r) != api.OK {
			t.Errorf("%+v: %x, %d, Check %d", x.r, b, e, pdu.Check(x.r))
		}
		if r, e := pdu.Parse(want); !sameRequest(r, x.r) || e != api.OK {
			t.Errorf("%s: %+v, %d", x.digits, r, e)
		}
	}
}

// P3.1: requests of all functions up to their edges.
func TestRequestsUpToTheEdges(t *testing.T) {
	all := requests()
	seen := map[int]int{}
	for _, r := range all {
		seen[r.Func]++
		holdRequest(t, r)
	}
	for _, f := range functions {
		if seen[f] < 5 {
			t.Errorf("only %d requests of the function %d", seen[f], f)
		}
	}
}

// P3.1: every Count and every number of Values of each function, just below 65536 and just above it, and those that are too few or too many.
func TestEveryCount(t *testing.T) {
	for _, f := range functions {
		for many := -2; many < 2010; many++ {
			for _, at := range []int{0, 65535 - many, 65536 - many, 65537 - many} {
				holdRequest(t, api.Request{Func: f, Addr: at, Count: many})
				if many < 0 {
					continue
				}
				values := make([]int, many)
				holdRequest(t, api.Request{Func: f, Addr: at, Values: values})
				holdRequest(t, api.Request{Func: f, Addr: at, Count: many, Values: values})
				holdRequest(t, api.Request{Func: f, Addr: at, Count: many + 1, Values: values})
				holdRequest(t, api.Request{Func: f, Addr: at, Count: many, Values: make([]int, many+1)})
				holdRequest(t, api.Request{Func: f, Count: 1, To: at, Values: values})
				holdRequest(t, api.Request{Func: f, Addr: at, Count: many, Values: []int{7}})
			}
		}
	}
}

// oddNumbers are edges of words and of what a place can be, and numbers that are no words.
var oddNumbers = []int{0, 1, -1, 2, 3, 255, 256, 65534, 65535, 65536, 65537, -65535, -65536, 1 << 32, 1<<32 + 1, math.MaxInt, math.MaxInt - 1, math.MinInt, math.MinInt + 1}

// P3.1: each number field of each function at all edges, whether the function names it or not.
func TestEachFieldAtItsEdges(t *testing.T) {
	for _, base := range requests() {
		for _, n := range oddNumbers {
			for _, change := range []func(r *api.Request){
				func(r *api.Request) { r.Func = n },
				func(r *api.Request) { r.Addr = n },
				func(r *api.Request) { r.Count = n },
				func(r *api.Request) { r.To = n },
				func(r *api.Request) { r.And = n },
				func(r *api.Request) { r.Or = n },
				func(r *api.Request) { r.Values = append(slices.Clone(r.Values), n) },
				func(r *api.Request) { r.Values = []int{n} },
				func(r *api.Request) { r.Values = nil },
			} {
				r := base
				change(&r)
				holdRequest(t, r)
			}
		}
	}
}

// P3.1: one value among others that is no bit, or no word, wherever it stands.
func TestEachValue(t *testing.T) {
	for _, r := range []api.Request{
		{Func: 5, Values: []int{0}},
		{Func: 6, Values: []int{0}},
		{Func: 15, Count: 17, Values: make([]int, 17)},
		{Func: 15, Count: 1968, Values: make([]int, 1968)},
		{Func: 16, Count: 123, Values: make([]int, 123)},
		{Func: 23, Count: 1, Values: make([]int, 121)},
	} {
		for k := range r.Values {
			for _, n := range oddNumbers {
				r.Values[k] = n
				holdRequest(t, r)
			}
			r.Values[k] = 0
		}
	}
}

// P3.1: a function that is none of the table may not be, whatever else is said.
func TestNoFunction(t *testing.T) {
	for f := -300; f < 1200; f++ {
		for _, base := range []api.Request{{}, {Addr: 1, Count: 1}, {Addr: 1, Values: []int{1}}, {Addr: 1, Count: 1, Values: []int{1}}, {And: 1, Or: 1}, {Count: 1, To: 1, Values: []int{1}}} {
			base.Func = f
			holdRequest(t, base)
		}
	}
	for _, n := range oddNumbers {
		holdRequest(t, api.Request{Func: n, Count: 1})
	}
}

// holdBytes holds what Parse says of bytes against what they are.
func holdBytes(t *testing.T, b []byte) {
	t.Helper()
	want, ok := wantParse(b)
	r, e := pdu.Parse(b)
	if ok && (e != api.OK || !sameRequest(r, want)) || !ok && (e != api.ErrForm || !sameRequest(r, api.Request{})) {
		t.Fatalf("%x: %+v, %d, not %+v, %v", b, r, e, want, ok)
	}
}

// P3.1: bytes that are no request, written out by hand.
func TestNoRequest(t *testing.T) {
	for _, digits := range []string{
		"", "00", "01", "03", "83", "83 02", "ff",
		"00 0000 0001", "07 0001 0001", "14 0001 0001", "83 0000 0001", "81 0000 0001", "90 0001 0001 02 0007",
		"01 0000 0000", "01 0000 07d1", "02 0000 0000", "02 0000 07d1", "03 0000 0000", "03 0000 007e", "04 0000 0000", "04 0000 007e",
		"01 ffff 0002", "02 f831 07d0", "03 ffff 0002", "04 ff84 007d", "03 0000 0001 00", "03 0000 00",
		"05 0001 0001", "05 0001 ff01", "05 0001 fe00", "05 0001 00ff", "05 0001 ffff", "05 0001 0100", "05 0001 feff", "05 0001 ff00 00", "05 0001 ff",
		"06 0001 00", "06 0001 0000 00",
		"0f 0002 0000 00", "0f 0002 0000 01 00", "0f 0002 0009 02 05 03", "0f 0002 0009 02 05", "0f 0002 0009 01 05", "0f 0002 0009 02 05 01 00", "0f 0002 0009 03 05 01 00", "0f 0002 0009 01 05 01", "0f ffff 0002 01 03", "0f 0002 0008", "0f 0002 0008 01", "0f 0002 0001 01 02",
		"10 0002 0000 00", "10 0002 0001 03 000101", "10 0002 0001 02 00", "10 0002 0001 02 0001 00", "10 0002 0001 01 0001", "10 0002 0002 02 0001", "10 0002 0001 04 0001 0002", "10 0002 0001 04 0001", "10 ffff 0002 04 0001 0002", "10 0002 0001", "10 0002 0001 02",
		"16 0004 00f2 00", "16 0004 00f2", "16 0004 00f2 0025 00",
		"17 0003 0006 000e 0000 00", "17 0003 0000 000e 0001 02 00ff", "17 0003 007e 000e 0001 02 00ff", "17 0003 0006 000e 0001 02 00", "17 0003 0006 000e 0001 02 00ff 00", "17 0003 0006 000e 0001 02 00ff 0000", "17 0003 0006 000e 0002 02 00ff", "17 0003 0006 000e 0002 04 00ff", "17 0003 0006 000e 0001 04 00ff", "17 ffff 0002 000e 0001 02 00ff", "17 0003 0006 ffff 0002 04 00ff 0000", "17 0003 0006 000e 0001", "17 0003 0006 000e 0001 02",
	} {
		b := fromHex(t, digits)
		if r, e := pdu.Parse(b); e != api.ErrForm || !sameRequest(r, api.Request{}) {
			t.Errorf("%s: %+v, %d", digits, r, e)
		}
		holdBytes(t, b)
	}
	holdBytes(t, nil)
}

// P3.1: the bytes of a request, cut anywhere, with more behind them, and with each byte turned into each other one.
func TestBytesTurned(t *testing.T) {
	for k, r := range requests() {
		// One of five is enough, and 5 has nothing in common with the six addresses that they go by.
		if k%5 != 0 {
			continue
		}
		b := wantBytes(t, r)
		for n := range len(b) {
			holdBytes(t, b[:n])
		}
		for n := range 12 {
			holdBytes(t, append(slices.Clone(b), make([]byte, n)...))
			holdBytes(t, append(slices.Clone(b), bytes.Repeat([]byte{0xff}, n)...))
		}
		every := 1
		if len(b) > 60 {
			every = 127
		}
		for i := range b {
			for x := k % every; x < 256; x += every {
				turned := slices.Clone(b)
				turned[i] = byte(x)
				holdBytes(t, turned)
			}
		}
	}
}

// P3.1: bytes whose own lengths fit, but of which there are more than a request may have.
func TestTooManyBytes(t *testing.T) {
	for _, many := range []int{121, 122, 123, 124, 126, 127} {
		words := hexWords(oddWords(many)...)
		holdBytes(t, fromHex(t, "10 0000"+hexWords(many)+behindCount(words)))
		holdBytes(t, fromHex(t, "17 0000 0001 0000"+hexWords(many)+behindCount(words)))
	}
	for _, many := range []int{1960, 1961, 1968, 1969, 1976, 1977, 2000, 2040} {
		holdBytes(t, fromHex(t, "0f 0000"+hexWords(many)+behindCount(hexBits(oddBits(many)))))
	}
	for _, many := range []int{128, 256, 257, 2049} {
		words := hexWords(make([]int, many)...)
		count := []string{"00", "02"}[many%2]
		for _, head := range []string{"10 0000", "17 0000 0001 0000"} {
			holdBytes(t, fromHex(t, head+hexWords(many)+count+words))
			holdBytes(t, fromHex(t, head+hexWords(many)+"fe"+words))
			holdBytes(t, fromHex(t, head+hexWords(1)+"02"+words))
		}
	}
	for _, head := range []string{"01 0000 0001", "05 0000 ff00", "0f 0000 ffff ff", "10 0000 ffff fe", "16 0000 0000 0000", "17 0000 0001 0000 ffff fe"} {
		for _, more := range []int{246, 247, 248, 249, 250, 1 << 13, 2 * 65535, 1 << 20} {
			b := append(fromHex(t, head), make([]byte, more)...)
			if r, e := pdu.Parse(b); e != api.ErrForm || !sameRequest(r, api.Request{}) {
				t.Errorf("%s and %d bytes: %+v, %d", head, more, r, e)
			}
		}
	}
}

// P3.1: of all bytes up to three nothing is a request, and of five and more just what the table says, for a net of bytes.
func TestAllShortBytes(t *testing.T) {
	for first := range 256 {
		for _, size := range []int{1, 2, 3, 4} {
			b := make([]byte, size)
			b[0] = byte(first)
			holdBytes(t, b)
		}
		for _, digits := range []string{"0000", "0001", "0002", "007d", "007e", "07b0", "07b1", "07d0", "07d1", "ff00", "ffff"} {
			for _, at := range []string{"0000", "ff83", "ff84", "f830", "f831", "ffff"} {
				holdBytes(t, append([]byte{byte(first)}, fromHex(t, at+digits)...))
				holdBytes(t, append([]byte{byte(first)}, fromHex(t, at+digits+"0000")...))
				holdBytes(t, append([]byte{byte(first)}, fromHex(t, at+digits+"0100")...))
				holdBytes(t, append([]byte{byte(first)}, fromHex(t, at+digits+"020000")...))
			}
		}
	}
}
