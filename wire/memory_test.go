package wire_test

import (
	"slices"
	"strings"
	"testing"

	"bascule/api"
	"bascule/wire"
)

// spare answers a list of the bytes 1, 2, 3 with room behind it, and the whole of it, that room among it.
func spare() (b, whole []byte) {
	whole = slices.Repeat([]byte{0xee}, 64)
	copy(whole, []byte{1, 2, 3})
	return whole[:3], whole
}

// R2: neither the list that is handed in nor its spare room is written into, and what comes out shares nothing with it.
func TestPuttingLeavesTheList(t *testing.T) {
	for name, put := range map[string]func([]byte) ([]byte, api.Errno){
		"Put":             func(b []byte) ([]byte, api.Errno) { return wire.Put(b, 258) },
		"Put, refused":    func(b []byte) ([]byte, api.Errno) { return wire.Put(b, 65536) },
		"PutText":         func(b []byte) ([]byte, api.Errno) { return wire.PutText(b, "ab") },
		"PutText, empty":  func(b []byte) ([]byte, api.Errno) { return wire.PutText(b, "") },
		"PutText, longer": func(b []byte) ([]byte, api.Errno) { return wire.PutText(b, strings.Repeat("x", 100)) },
		"PutText, refused": func(b []byte) ([]byte, api.Errno) {
			return wire.PutText(b, strings.Repeat("x", 65536))
		},
	} {
		b, whole := spare()
		before := slices.Clone(whole)
		out, _ := put(b)
		if !slices.Equal(whole, before) {
			t.Errorf("%s: wrote into the list: %x", name, whole)
		}
		overwrite(out)
		if !slices.Equal(whole, before) {
			t.Errorf("%s: what came out shares memory with the list", name)
		}
	}
}

// overwrite turns every byte of b, and of its room.
func overwrite(b []byte) {
	b = b[:cap(b)]
	for k := range b {
		b[k] ^= 0x55
	}
}

// R2: two that are put behind one list do not turn each other.
func TestTwoBehindOneList(t *testing.T) {
	b, _ := spare()
	one, _ := wire.Put(b, 258)
	two, _ := wire.Put(b, 772)
	three, _ := wire.PutText(b, "z")
	if !slices.Equal(one, []byte{1, 2, 3, 1, 2}) || !slices.Equal(two, []byte{1, 2, 3, 3, 4}) || !slices.Equal(three, []byte{1, 2, 3, 0, 1, 'z'}) {
		t.Errorf("%x, %x, %x", one, two, three)
	}
}

// R2: what is put does not turn with the list that was handed in.
func TestPutIsNoView(t *testing.T) {
	b := []byte{1, 2, 3}
	one, _ := wire.Put(b, 258)
	two, _ := wire.PutText(b, "z")
	overwrite(b)
	if !slices.Equal(one, []byte{1, 2, 3, 1, 2}) || !slices.Equal(two, []byte{1, 2, 3, 0, 1, 'z'}) {
		t.Errorf("%x, %x", one, two)
	}
}

// R2: telling writes nothing, and a text that was told does not turn with the bytes that it came from.
func TestTellingLeavesTheList(t *testing.T) {
	b := []byte{0, 2, 'a', 'b', 0xee, 0xee}[:4]
	whole := b[:cap(b)]
	before := slices.Clone(whole)
	wire.At(b, 0)
	wire.At(b, 3)
	s, _, _ := wire.TextAt(b, 0)
	wire.TextAt(b, 2)
	bits, _ := wire.Unpack(b, 27)
	wire.Unpack(b, 33)
	if !slices.Equal(whole, before) {
		t.Errorf("wrote into the list: %x", whole)
	}
	keep := slices.Clone(bits)
	overwrite(b)
	if s != "ab" || !slices.Equal(bits, keep) {
		t.Errorf("%q, %v", s, bits)
	}
}

// R2: packing writes nothing into the list of bits, nor into its spare room.
func TestPackingLeavesTheList(t *testing.T) {
	for _, bits := range [][]int{
		[]int{1, 0, 1, 7, 7, 7, 7, 7, 7, 7}[:3],
		[]int{1, 0, 2, 7, 7, 7, 7, 7, 7, 7}[:3],
	} {
		whole := bits[:cap(bits)]
		before := slices.Clone(whole)
		wire.Pack(bits)
		if !slices.Equal(whole, before) {
			t.Errorf("wrote into the list: %v", whole)
		}
	}
}

// R2: the same call answers the same, whatever was called between, in memory of its own.
func TestSameCallSameAnswer(t *testing.T) {
	bits, b := []int{1, 1, 0, 1}, []byte{0x0b}
	packed, _ := wire.Pack(bits)
	unpacked, _ := wire.Unpack(b, 4)
	packed[0], unpacked[0] = 0xff, 9
	again, _ := wire.Pack(bits)
	told, _ := wire.Unpack(b, 4)
	if !slices.Equal(again, []byte{0x0b}) || !slices.Equal(told, bits) {
		t.Errorf("%x, %v", again, told)
	}
}
