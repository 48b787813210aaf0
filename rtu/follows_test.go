package rtu_test

import (
	"math/rand"
	"testing"

	"bascule/api"
	"bascule/rtu"
)

// made answers a frame that may be.
func made(t *testing.T, unit int, pdu []byte) []byte {
	t.Helper()
	f, e := rtu.Frame(unit, pdu)
	if e != api.OK {
		t.Fatalf("Frame(%d, %x): %d", unit, pdu, e)
	}
	return f
}

// P5.3: of each unit and of each size, a frame that was made is split into what it was made of.
func TestMadeIsSplit(t *testing.T) {
	for unit := range 248 {
		for n := 1; n <= 253; n++ {
			pdu := some(n, unit)
			holdSplit(t, made(t, unit, pdu), unit, pdu)
		}
	}
	for x := range 256 {
		for _, n := range []int{1, 2, 253} {
			pdu := make([]byte, n)
			for k := range pdu {
				pdu[k] = byte(x)
			}
			holdSplit(t, made(t, x%248, pdu), x%248, pdu)
		}
	}
}

// P5.3: a short frame, parted in each way that there is, with each mix of the shortest and the longest silence between two parts, is told as one.
func TestEveryParting(t *testing.T) {
	const gap = 4
	f := made(t, 17, []byte{3, 9})
	for cuts := range 1 << (len(f) - 1) {
		for long := range 1 << (len(f) - 1) {
			if long&^cuts != 0 {
				continue
			}
			w, now, from := watch(t, gap), 10, 0
			for k := 1; k < len(f); k++ {
				if cuts>>(k-1)&1 == 0 {
					continue
				}
				tells(t, w.feed(now, f[from:k]...))
				from = k
				if long>>(k-1)&1 == 1 {
					now += gap - 1
				}
			}
			tells(t, w.feed(now, f[from:]...))
			tells(t, w.wait(now+gap-1))
			tells(t, w.wait(now+gap), f)
			tells(t, w.wait(now+2*gap))
		}
	}
}

// parted feeds bytes in random parts, less than gap ticks apart, with calls without bytes between, and answers what the first call told, and the last tick that brought some.
func parted(t *testing.T, r *rand.Rand, w *watched, now int, b []byte) ([][]byte, int) {
	t.Helper()
	n := 1 + r.Intn(len(b))
	ahead := w.feed(now, b[:n]...)
	for b = b[n:]; len(b) > 0; b = b[n:] {
		next := now + r.Intn(w.gap)
		for at := now; at < next && r.Intn(2) == 0; at++ {
			tells(t, w.wait(at))
			tells(t, w.feed(at))
		}
		n = 1 + r.Intn(min(len(b), 1+r.Intn(40)))
		tells(t, w.feed(next, b[:n]...))
		now = next
	}
	return ahead, now
}

// P5.3: frames of all sizes, one behind the other, each parted at random, gap ticks or more behind the one ahead, are told as they were, and split into what they were made of.
func TestFramesOneBehindTheOther(t *testing.T) {
	r := rand.New(rand.NewSource(5))
	for _, gap := range []int{1, 2, 4, 35} {
		w, now := watch(t, gap), 0
		var untold [][]byte
		for k := range 150 {
			unit, pdu := r.Intn(248), some([]int{1, 2, 252, 253, 1 + r.Intn(253)}[r.Intn(5)], k)
			f := made(t, unit, pdu)
			ahead, end := parted(t, r, w, now, f)
			tells(t, ahead, untold...)
			untold, now = [][]byte{f}, end+gap+r.Intn(3)
			if r.Intn(2) == 0 {
				out := w.wait(now)
				tells(t, out, f)
				holdSplit(t, out[0], unit, pdu)
				untold = nil
			}
		}
	}
}

// P5.3: bytes that are no frame are told as one, too: silence alone tells them apart.
func TestNoFrames(t *testing.T) {
	r := rand.New(rand.NewSource(6))
	w, now := watch(t, 9), 0
	for _, n := range []int{1, 2, 3, 4, 5, 64, 255, 256, 256, 3, 1} {
		b := some(n, n)
		_, end := parted(t, r, w, now, b)
		tells(t, w.wait(end+8))
		tells(t, w.wait(end+9), b)
		now = end + 9
	}
}
