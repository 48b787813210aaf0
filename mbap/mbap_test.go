package mbap_test

import (
	"bytes"
	"math"
	"testing"

	"bascule/api"
	"bascule/mbap"
)

// holdFrame holds that a frame has just these bytes.
func holdFrame(t *testing.T, a api.Adu, want []byte) {
	t.Helper()
	if b, e := mbap.Frame(a); !bytes.Equal(b, want) || e != api.OK {
		t.Fatalf("Frame(%d, %d, %d bytes): %x, %d, not %x", a.Tid, a.Unit, len(a.Pdu), b, e, want)
	}
}

// refusesFrame holds that there is no such frame.
func refusesFrame(t *testing.T, a api.Adu) {
	t.Helper()
	if b, e := mbap.Frame(a); len(b) != 0 || e != api.ErrArg {
		t.Fatalf("Frame(%d, %d, %d bytes): %x, %d", a.Tid, a.Unit, len(a.Pdu), b, e)
	}
}

// P6.1: frames written out by hand, the chapter's example first.
func TestFramesByHand(t *testing.T) {
	for _, x := range []struct {
		a    api.Adu
		want []byte
	}{
		{small, []byte{0, 1, 0, 0, 0, 3, 0x11, 3, 0}},
		{api.Adu{Pdu: []byte{0}}, []byte{0, 0, 0, 0, 0, 2, 0, 0}},
		{api.Adu{Tid: 65535, Unit: 255, Pdu: []byte{255}}, []byte{255, 255, 0, 0, 0, 2, 255, 255}},
		{api.Adu{Tid: 258, Unit: 248, Pdu: []byte{3, 0, 16, 0, 2}}, []byte{1, 2, 0, 0, 0, 6, 248, 3, 0, 16, 0, 2}},
		{api.Adu{Tid: 255, Unit: 247, Pdu: []byte{0x83, 2}}, []byte{0, 255, 0, 0, 0, 3, 247, 0x83, 2}},
		{api.Adu{Tid: 256, Unit: 128, Pdu: make([]byte, 253)}, append([]byte{1, 0, 0, 0, 0, 254, 128}, make([]byte, 253)...)},
	} {
		holdFrame(t, x.a, x.want)
	}
}

// P6.1: every Tid, every Unit and every size that may be, as they are.
func TestEveryFrame(t *testing.T) {
	for tid := range 65536 {
		a := api.Adu{Tid: tid, Unit: tid % 256, Pdu: some(1+tid%3, tid)}
		holdFrame(t, a, framed(a))
	}
	for unit := range 256 {
		for n := 1; n <= 253; n++ {
			a := api.Adu{Tid: 251 * unit, Unit: unit, Pdu: some(n, unit)}
			holdFrame(t, a, framed(a))
		}
	}
}

// P6.1: one of the three that may not be, and all of them at once.
func TestNoFrames(t *testing.T) {
	pdu := []byte{3, 0}
	for _, tid := range []int{-1, 65536, -2, 65537, 131072, -65535, -65536, 1 << 32, 1<<32 + 1, math.MaxInt, math.MinInt} {
		refusesFrame(t, api.Adu{Tid: tid, Unit: 17, Pdu: pdu})
		refusesFrame(t, api.Adu{Tid: tid})
	}
	for _, unit := range []int{-1, 256, -2, 257, 512, -255, -256, 65536, 1 << 32, 1<<32 + 17, math.MaxInt, math.MinInt} {
		refusesFrame(t, api.Adu{Tid: 1, Unit: unit, Pdu: pdu})
		refusesFrame(t, api.Adu{Tid: 65536, Unit: unit, Pdu: pdu})
	}
	for _, none := range [][]byte{nil, {}, make([]byte, 0, 9)} {
		refusesFrame(t, api.Adu{Tid: 1, Unit: 17, Pdu: none})
	}
	for _, n := range []int{254, 255, 256, 257, 509, 510, 65535, 65536, 65537} {
		refusesFrame(t, api.Adu{Tid: 1, Unit: 17, Pdu: some(n, n)})
	}
	refusesFrame(t, api.Adu{Tid: -1, Unit: 256, Pdu: make([]byte, 254)})
	refusesFrame(t, api.Adu{})
}
