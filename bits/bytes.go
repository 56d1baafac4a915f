package bits

import "bulkhead/api"

// wordBytes is how many bytes a word is told in.
const wordBytes = 4

// sumTurn is what is laid upon a sum for each 1 that falls out of it.
const sumTurn = 0xedb88320

// Pack tells words as bytes, Unpack bytes as words.
func Pack(words []uint32) []byte {
	b := make([]byte, wordBytes*len(words))
	for i, w := range words {
		spread(b[wordBytes*i:wordBytes*(i+1)], uint64(w))
	}
	return b
}

func Unpack(b []byte) ([]uint32, api.Errno) {
	if len(b)%wordBytes != 0 {
		return nil, api.ErrBitsShort
	}
	words := make([]uint32, len(b)/wordBytes)
	for i := range words {
		words[i] = uint32(gather(b[wordBytes*i : wordBytes*(i+1)]))
	}
	return words, api.OK
}

// Sum tells the check sum of bytes.
func Sum(b []byte) uint32 {
	sum := ^uint32(0)
	for _, x := range b {
		sum = sumByte(sum ^ uint32(x))
	}
	return ^sum
}

// sumByte lets the lowest eight bits of a sum fall out of it.
func sumByte(sum uint32) uint32 {
	for range 8 {
		out := sum & 1
		sum >>= 1
		if out == 1 {
			sum ^= sumTurn
		}
	}
	return sum
}

// spread lays a number down in all bytes of b, the lowest first.
func spread(b []byte, n uint64) {
	for i := range b {
		b[i] = byte(n)
		n >>= 8
	}
}

// gather tells the number that spread has laid down in b.
func gather(b []byte) uint64 {
	var n uint64
	for i, x := range b {
		n |= uint64(x) << (8 * i)
	}
	return n
}
