// Package wire is layer 1: numbers and texts as bytes. See shared/doc/01-wire.md.
package wire

import "bascule/api"

const (
	wordBytes = 2
	byteBits  = 8
)

// Put answers b, and the word n behind it.
func Put(b []byte, n int) ([]byte, api.Errno) {
	if n < 0 || n > api.MaxWord {
		return nil, api.ErrArg
	}
	out := longer(b, wordBytes)
	setWord(out, len(b), n)
	return out, api.OK
}

// At answers the word at the place i of b.
func At(b []byte, i int) (int, api.Errno) {
	if i < 0 {
		return 0, api.ErrArg
	}
	// Nothing is added to i: it may be as great as an int gets.
	if i > len(b)-wordBytes {
		return 0, api.ErrMore
	}
	return int(b[i])<<byteBits | int(b[i+1]), api.OK
}

// PutText answers b, and the text s behind it.
func PutText(b []byte, s string) ([]byte, api.Errno) {
	if len(s) > api.MaxString {
		return nil, api.ErrLong
	}
	out := longer(b, wordBytes+len(s))
	setWord(out, len(b), len(s))
	copy(out[len(b)+wordBytes:], s)
	return out, api.OK
}

// TextAt answers the text at the place i of b, and the place behind it.
func TextAt(b []byte, i int) (string, int, api.Errno) {
	n, e := At(b, i)
	if e != api.OK {
		return "", 0, e
	}
	start := i + wordBytes
	end := start + n
	if end > len(b) {
		return "", 0, api.ErrMore
	}
	return string(b[start:end]), end, api.OK
}

// Pack answers bits as bytes, the first bit as the lowest of the first byte.
func Pack(bits []int) ([]byte, api.Errno) {
	out := make([]byte, bytesFor(len(bits)))
	for k, bit := range bits {
		if bit != 0 && bit != 1 {
			return nil, api.ErrArg
		}
		out[k/byteBits] |= byte(bit) << (k % byteBits)
	}
	return out, api.OK
}

// Unpack answers the first n bits of b.
func Unpack(b []byte, n int) ([]int, api.Errno) {
	if n < 0 {
		return nil, api.ErrArg
	}
	// Held against b ahead of make: n may be far more than there is memory for.
	if bytesFor(n) > len(b) {
		return nil, api.ErrMore
	}
	bits := make([]int, n)
	for k := range bits {
		bits[k] = int(b[k/byteBits]>>(k%byteBits)) & 1
	}
	return bits, api.OK
}

// longer answers a copy of b with more bytes behind it: append might write into the spare room of b, which is the caller's.
func longer(b []byte, more int) []byte {
	out := make([]byte, len(b)+more)
	copy(out, b)
	return out
}

// setWord lays the word n over the two bytes from i on.
func setWord(b []byte, i, n int) {
	b[i] = byte(n >> byteBits)
	b[i+1] = byte(n)
}

// bytesFor answers how many bytes n bits take; it divides first, so that no n is too great for it.
func bytesFor(n int) int {
	whole := n / byteBits
	if n%byteBits != 0 {
		whole++
	}
	return whole
}
