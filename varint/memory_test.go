package varint_test

import (
	"slices"
	"testing"

	"bascule/api"
	"bascule/varint"
)

// overwrite turns every byte of b, and of its room.
func overwrite(b []byte) {
	b = b[:cap(b)]
	for k := range b {
		b[k] ^= 0x55
	}
}

// R2: At writes neither into the list nor into its spare room, whatever it answers.
func TestTellingLeavesTheList(t *testing.T) {
	for _, whole := range [][]byte{
		{0x00, 0xee, 0xee, 0xee, 0xee},
		{0x80, 0x01, 0xee, 0xee, 0xee},
		{0x80, 0x00, 0xee, 0xee, 0xee},
		{0x80, 0x80, 0x80, 0x80, 0xee},
		{0xff, 0xff, 0xff, 0x7f, 0xee},
	} {
		before := slices.Clone(whole)
		for many := range len(whole) {
			for i := -1; i < len(whole)+2; i++ {
				varint.At(whole[:many], i)
			}
		}
		if !slices.Equal(whole, before) {
			t.Errorf("wrote into the list: %x, which was %x", whole, before)
		}
	}
}

// R2: a list that was handed in is not kept: turned, it is told as what it is now, and turns no other answer.
func TestTheListIsNotKept(t *testing.T) {
	b := []byte{0x80, 0x01}
	varint.At(b, 0)
	b[0], b[1] = 0x81, 0x02
	if n, next, e := varint.At(b, 0); n != 257 || next != 2 || e != api.OK {
		t.Errorf("At(%x, 0): %d, %d, %d", b, n, next, e)
	}
	if out, e := varint.Put(128); !slices.Equal(out, []byte{0x80, 0x01}) || e != api.OK {
		t.Errorf("Put(128): %x, %d", out, e)
	}
}

// R2: bytes that were put are the caller's own: turned, they turn no other answer, made before or behind.
func TestPutIsTheCallersOwn(t *testing.T) {
	for _, x := range knowns() {
		early := put(t, x.n)
		turned := put(t, x.n)
		overwrite(turned)
		late := put(t, x.n)
		if !slices.Equal(early, x.b) || !slices.Equal(late, x.b) {
			t.Errorf("Put(%d): %x and %x, not %x", x.n, early, late, x.b)
		}
	}
}

// R2: bytes that the caller adds behind what was put turn no other answer.
func TestAddedBehind(t *testing.T) {
	one := append(put(t, 1), 0xaa)
	two := append(put(t, 2), 0xbb)
	if !slices.Equal(one, []byte{0x01, 0xaa}) || !slices.Equal(two, []byte{0x02, 0xbb}) {
		t.Errorf("%x, %x", one, two)
	}
}

// R2: the same call answers the same, whatever was called between, refused or not.
func TestSameCallSameAnswer(t *testing.T) {
	for range 2 {
		for _, x := range knowns() {
			varint.Put(-1)
			varint.Size(268435456)
			varint.At([]byte{0x80}, 0)
			n, next, e := varint.At(x.b, 0)
			k, f := varint.Size(x.n)
			if n != x.n || next != len(x.b) || e != api.OK || k != len(x.b) || f != api.OK {
				t.Errorf("%x: %d, %d, %d; %d, %d", x.b, n, next, e, k, f)
			}
			if b := put(t, x.n); !slices.Equal(b, x.b) {
				t.Errorf("Put(%d): %x", x.n, b)
			}
		}
	}
}
