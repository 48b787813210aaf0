package crc_test

import (
	"slices"
	"testing"

	"bascule/api"
	"bascule/crc"
)

// roomy answers the bytes of b with room behind them, and the whole of it, that room among it.
func roomy(b []byte) (list, whole []byte) {
	whole = slices.Repeat([]byte{0xee}, len(b)+16)
	copy(whole, b)
	return whole[:len(b)], whole
}

// overwrite turns every byte of b, and of its room.
func overwrite(b []byte) {
	b = b[:cap(b)]
	for k := range b {
		b[k] ^= 0x55
	}
}

// rowsOfAllSorts are rows that are good, and others.
var rowsOfAllSorts = [][]byte{{}, {7}, {0xff, 0xff}, {1, 4, 2, 255, 255}, {1, 4, 2, 255, 255, 0xb8, 0x80}, {1, 4, 2, 255, 255, 0x80, 0xb8}}

// R2: neither the list that is handed in nor its spare room is written into, and what comes out shares nothing with it.
func TestListsAreLeft(t *testing.T) {
	for name, call := range map[string]func([]byte) []byte{
		"Sum":  func(b []byte) []byte { crc.Sum(b); return nil },
		"Add":  crc.Add,
		"Good": func(b []byte) []byte { crc.Good(b); return nil },
		"Whole": func(b []byte) []byte {
			w, _ := crc.Whole(b)
			return w
		},
	} {
		for _, row := range rowsOfAllSorts {
			b, whole := roomy(row)
			before := slices.Clone(whole)
			out := call(b)
			if !slices.Equal(whole, before) {
				t.Errorf("%s(%x): wrote into the list: %x", name, row, whole)
			}
			overwrite(out)
			if !slices.Equal(whole, before) {
				t.Errorf("%s(%x): what came out shares memory with the list", name, row)
			}
		}
	}
}

// R2: what came out does not turn with the list that was handed in.
func TestAnswersAreNoViews(t *testing.T) {
	b, whole := roomy([]byte{1, 4, 2, 255, 255, 0xb8, 0x80})
	added := crc.Add(b)
	w, e := crc.Whole(b)
	overwrite(whole)
	if !slices.Equal(added, []byte{1, 4, 2, 255, 255, 0xb8, 0x80, 0, 0}) {
		t.Errorf("Add: %x", added)
	}
	if !slices.Equal(w, []byte{1, 4, 2, 255, 255}) || e != api.OK {
		t.Errorf("Whole: %x, %d", w, e)
	}
}

// R2: the same call answers the same, whatever was called between, in memory of its own.
func TestSameCallSameAnswer(t *testing.T) {
	for _, row := range rowsOfAllSorts {
		sum, good, added := crc.Sum(row), crc.Good(row), crc.Add(row)
		w, e := crc.Whole(row)
		keptAdded, keptWhole := slices.Clone(added), slices.Clone(w)
		overwrite(added)
		overwrite(w)
		crc.Step(1, 2)
		crc.Step(-1, 2)
		again, e2 := crc.Whole(row)
		if crc.Sum(row) != sum || crc.Good(row) != good || !slices.Equal(crc.Add(row), keptAdded) || !slices.Equal(again, keptWhole) || e2 != e {
			t.Errorf("%x: %04x, %v, %x, %d the second time", row, crc.Sum(row), crc.Good(row), again, e2)
		}
	}
}
