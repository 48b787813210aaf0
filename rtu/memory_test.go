package rtu_test

import (
	"slices"
	"testing"

	"bascule/api"
	"bascule/rtu"
)

// roomy answers bytes with room behind them, and the whole of it, that room among it.
func roomy(b []byte) (list, whole []byte) {
	whole = slices.Repeat([]byte{0xa5}, len(b)+600)
	copy(whole, b)
	return whole[:len(b)], whole
}

// overwrite turns all bytes of a list, and its room.
func overwrite(b []byte) {
	b = b[:cap(b)]
	for k := range b {
		b[k] ^= 0xff
	}
}

// holdApart holds that lists, and their room, share no memory: each is overwritten in its turn, and the others stay as they are.
func holdApart(t *testing.T, lists ...[]byte) {
	t.Helper()
	for k, one := range lists {
		var kept [][]byte
		for _, other := range lists {
			kept = append(kept, slices.Clone(other[:cap(other)]))
		}
		overwrite(one)
		for j, other := range lists {
			if j != k && !slices.Equal(other[:cap(other)], kept[j]) {
				t.Fatalf("the lists %d and %d share memory", k, j)
			}
		}
	}
}

// R2: bytes that a frame is made of, and their spare room, are not written into, and share no memory with frames.
func TestFrameLeavesItsBytes(t *testing.T) {
	for _, n := range []int{0, 1, 2, 252, 253, 254} {
		for _, unit := range []int{-1, 0, 247, 248} {
			pdu, whole := roomy(some(n, 1))
			kept := slices.Clone(whole)
			f, _ := rtu.Frame(unit, pdu)
			again, _ := rtu.Frame(unit, pdu)
			if !slices.Equal(whole, kept) {
				t.Fatalf("Frame(%d, %d bytes) wrote into them", unit, n)
			}
			holdApart(t, whole, f, again)
		}
	}
}

// R2: a frame that is split, and its spare room, are not written into, and share no memory with what it is split into.
func TestSplitLeavesItsFrame(t *testing.T) {
	for _, b := range [][]byte{{1, 2, 3}, framed(0, []byte{1}), framed(247, some(253, 1)), framed(248, some(9, 1)), framed(1, some(254, 1)), {1, 2, 3, 4, 5}} {
		frame, whole := roomy(b)
		kept := slices.Clone(whole)
		_, pdu, _ := rtu.Split(frame)
		_, again, _ := rtu.Split(frame)
		if !slices.Equal(whole, kept) {
			t.Fatalf("Split(%x) wrote into it", b)
		}
		holdApart(t, whole, pdu, again)
	}
}

// R2: the room behind a frame does not count.
func TestSplitWithoutItsRoom(t *testing.T) {
	long := framed(3, some(254, 2))
	for n := range long {
		u, p, e := rtu.Split(long[:n])
		alone, q, e2 := rtu.Split(slices.Clip(slices.Clone(long[:n])))
		if u != alone || !slices.Equal(p, q) || e != e2 {
			t.Errorf("Split of %d bytes: %d, %x, %d, alone %d, %x, %d", n, u, p, e, alone, q, e2)
		}
	}
	if _, _, e := rtu.Split(framed(3, []byte{1})[:3]); e != api.ErrMore {
		t.Errorf("Split read its room: %d", e)
	}
}

// R2: bytes that are fed, and their spare room, are not written into, by this call nor by later ones, and are not kept: what is told is what they were.
func TestFeedLeavesItsBytes(t *testing.T) {
	for _, parts := range [][]int{{1}, {256}, {257}, {1, 1, 1}, {128, 128}, {128, 129}, {255, 1}, {1, 255}, {300, 1}, {100, 100, 56}} {
		l, _ := rtu.New(4)
		var all []byte
		var lists, kept [][]byte
		for k, n := range parts {
			b, whole := roomy(some(n, k))
			all = append(all, b...)
			lists, kept = append(lists, whole), append(kept, slices.Clone(whole))
			l.Feed(k, b)
		}
		if !sameLists(lists, kept) {
			t.Fatalf("%v: wrote into what was fed", parts)
		}
		for _, whole := range lists {
			overwrite(whole)
		}
		out, e := l.Wait(100)
		if len(all) > 256 {
			tells(t, out)
			continue
		}
		if tells(t, out, all); e != api.OK {
			t.Fatalf("%v: %d", parts, e)
		}
		holdApart(t, append(lists, out[0])...)
	}
}

// R2: one list that is used for call after call, as a caller may, is told as it was at each of them.
func TestOneListForAllCalls(t *testing.T) {
	l, _ := rtu.New(4)
	list := make([]byte, 1, 300)
	var want []byte
	for k := range 200 {
		list[0] = byte(k)
		want = append(want, byte(k))
		l.Feed(k, list)
	}
	list[0] = 77
	out, _ := l.Feed(300, list)
	tells(t, out, want)
	overwrite(list)
	out, _ = l.Wait(304)
	tells(t, out, []byte{77})
}

// R2: what is told is the caller's own: what is written into it, into its room or into the list that holds it turns no line and nothing that was told, and what comes later does not turn it.
func TestToldIsTheCallersOwn(t *testing.T) {
	l, _ := rtu.New(2)
	var told, want [][]byte
	for k := range 40 {
		b := some(1+k*6, k)
		l.Feed(10*k, b)
		var out [][]byte
		if k%2 == 0 {
			out, _ = l.Wait(10*k + 2)
		} else {
			out, _ = l.Feed(10*k+2, []byte{1, 2, 3})
		}
		tells(t, out, b)
		told, want = append(told, out[0]), append(want, slices.Clone(b))
		overwrite(b)
		out = out[:cap(out)]
		clear(out)
		if k%3 == 0 {
			overwrite(told[k])
			want[k] = slices.Clone(told[k])
		}
		if k%2 == 1 {
			out, _ = l.Wait(10*k + 4)
			tells(t, out, []byte{1, 2, 3})
			overwrite(out[0])
		}
		if !sameLists(told, want) {
			t.Fatalf("what was told turned at %d", k)
		}
	}
}

// R2: lines are apart.
func TestLinesAreApart(t *testing.T) {
	one, other := watch(t, 4), watch(t, 4)
	tells(t, one.feed(5, 1))
	tells(t, other.feed(0, 2))
	tells(t, one.wait(9), []byte{1})
	tells(t, other.feed(3, 3))
	tells(t, one.wait(20))
	tells(t, other.wait(7), []byte{2, 3})
}

// R2: the same calls answer the same, on another line.
func TestSameCallsSameAnswers(t *testing.T) {
	one, _ := rtu.New(3)
	other, _ := rtu.New(3)
	for k := range 300 {
		now, b := k*k%7+2*k, some(k*29%270, k)
		out, e := one.Feed(now, b)
		out2, e2 := other.Feed(now, b)
		if !sameLists(out, out2) || e != e2 {
			t.Fatalf("Feed(%d, %d bytes): %x, %d and %x, %d", now, len(b), out, e, out2, e2)
		}
	}
}
