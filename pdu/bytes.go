package pdu

import "bascule/wire"

const wordBytes = 2

// put answers b, and words behind it; all of them are known to be words.
func put(b []byte, words ...int) []byte {
	for _, n := range words {
		b, _ = wire.Put(b, n)
	}
	return b
}

// counted answers b, which is the caller's own to add to, and behind it how many bytes follow, and these.
func counted(b, follow []byte) []byte {
	b = append(b, byte(len(follow)))
	return append(b, follow...)
}

// packed answers bits, which are known to be bits, as bytes.
func packed(bits []int) []byte {
	b, _ := wire.Pack(bits)
	return b
}

// unpacked answers n bits of b from i on; none, if there are not so many.
func unpacked(b []byte, i, n int) []int {
	bits, _ := wire.Unpack(b[min(i, len(b)):], n)
	return bits
}

// wordAt answers the word at i; 0, if there is none.
func wordAt(b []byte, i int) int {
	n, _ := wire.At(b, i)
	return n
}

// wordsFrom answers all whole words of b from i on.
func wordsFrom(b []byte, i int) []int {
	var words []int
	for ; i+wordBytes <= len(b); i += wordBytes {
		words = append(words, wordAt(b, i))
	}
	return words
}
