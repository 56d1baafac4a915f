package bits_test

import (
	"bytes"
	"hash/crc32"
	"math/rand/v2"
	"slices"
	"testing"

	"bulkhead/api"
	"bulkhead/bits"
)

// someBytes: n bytes without a pattern.
func someBytes(source *rand.Rand, n int) []byte {
	b := make([]byte, n)
	for i := range b {
		b[i] = byte(source.Uint32())
	}
	return b
}

// P1.3
func TestPackOfExamples(t *testing.T) {
	rows := []struct {
		words []uint32
		b     []byte
	}{
		{nil, nil},
		{[]uint32{}, []byte{}},
		{[]uint32{0}, []byte{0, 0, 0, 0}},
		{[]uint32{0x01020304, 5}, []byte{4, 3, 2, 1, 5, 0, 0, 0}},
		{[]uint32{0xfffefdfc, 0x80000000, 0x7f}, []byte{0xfc, 0xfd, 0xfe, 0xff, 0, 0, 0, 0x80, 0x7f, 0, 0, 0}},
	}
	for _, x := range rows {
		if got := bits.Pack(x.words); !bytes.Equal(got, x.b) {
			t.Errorf("Pack(%x) = %x, not %x", x.words, got, x.b)
		}
		if got, e := bits.Unpack(x.b); !slices.Equal(got, x.words) || e != api.OK {
			t.Errorf("Unpack(%x) = %x, %v, not %x", x.b, got, e, x.words)
		}
	}
}

// P1.3
func TestUnpackOfNoWords(t *testing.T) {
	for n := range 40 {
		got, e := bits.Unpack(make([]byte, n))
		if n%4 == 0 && (len(got) != n/4 || e != api.OK) {
			t.Errorf("Unpack of %d bytes = %x, %v", n, got, e)
		}
		if n%4 != 0 && (len(got) != 0 || e != api.ErrBitsShort) {
			t.Errorf("Unpack of %d bytes = %x, %v", n, got, e)
		}
	}
	if got, e := bits.Unpack([]byte{4, 3, 2}); len(got) != 0 || e != api.ErrBitsShort {
		t.Errorf("Unpack(04 03 02) = %x, %v", got, e)
	}
}

// P1.10: Unpack of Pack is the list again, and Pack of what Unpack answers the bytes.
func TestPackAndUnpackUndoOneAnother(t *testing.T) {
	source := rand.New(rand.NewPCG(2, 2))
	for n := range 50 {
		b := someBytes(source, 4*n)
		words, e := bits.Unpack(b)
		if e != api.OK || !bytes.Equal(bits.Pack(words), b) {
			t.Fatalf("Unpack(%x) = %x, %v, of which Pack makes %x", b, words, e, bits.Pack(words))
		}
		again, e := bits.Unpack(bits.Pack(words))
		if e != api.OK || !slices.Equal(again, words) {
			t.Fatalf("Unpack of Pack(%x) = %x, %v", words, again, e)
		}
	}
}

// R5: neither changes its argument, the room behind its end neither, nor shares memory with it.
func TestPackAndUnpackShareNothing(t *testing.T) {
	words := []uint32{1, 2, 3, 4}
	b := bits.Pack(words[:2])
	if !slices.Equal(words, []uint32{1, 2, 3, 4}) {
		t.Errorf("Pack has changed its words: %x", words)
	}
	words[0] = 9
	if !bytes.Equal(b, []byte{1, 0, 0, 0, 2, 0, 0, 0}) {
		t.Errorf("what Pack has answered changes with its words: %x", b)
	}
	long := append(bytes.Clone(b), 7, 7, 7, 7)
	got, e := bits.Unpack(long[:8])
	long[0] = 9
	if e != api.OK || !slices.Equal(got, []uint32{1, 2}) || !bytes.Equal(long, []byte{9, 0, 0, 0, 2, 0, 0, 0, 7, 7, 7, 7}) {
		t.Errorf("Unpack = %x, %v of what is %x now", got, e, long)
	}
}

// P1.4
func TestSumOfExamples(t *testing.T) {
	rows := []struct {
		b    string
		want uint32
	}{
		{"", 0},
		{"\x00", 0xd202ef8d},
		{"\xff", 0xff000000},
		{"a", 0xe8b7be43},
		{"123456789", 0xcbf43926},
	}
	for _, x := range rows {
		if got := bits.Sum([]byte(x.b)); got != x.want {
			t.Errorf("Sum(%q) = %x, not %x", x.b, got, x.want)
		}
	}
	if got := bits.Sum(nil); got != 0 {
		t.Errorf("Sum of none = %x", got)
	}
}

// P1.4: the library's sum of this kind is another way to the same numbers.
func TestSumAsTheLibrary(t *testing.T) {
	source := rand.New(rand.NewPCG(3, 3))
	for n := range 300 {
		b := someBytes(source, n)
		kept := bytes.Clone(b)
		if got, want := bits.Sum(b), crc32.ChecksumIEEE(b); got != want {
			t.Fatalf("Sum(%x) = %x, not %x", b, got, want)
		}
		if !bytes.Equal(b, kept) {
			t.Fatalf("Sum has changed its bytes: %x to %x", kept, b)
		}
	}
}

// P1.11: bits are turned within 32 that stand side by side, at each place and in many patterns.
func TestSumOfBitsSideBySide(t *testing.T) {
	source := rand.New(rand.NewPCG(4, 4))
	b := someBytes(source, 24)
	sum := bits.Sum(b)
	for first := range 8 * len(b) {
		room := min(32, 8*len(b)-first)
		patterns := []uint32{1, 3, 0x80000001, 0xedb88320, 0x82608edb, 0x04c11db7, 0xffffffff}
		for range 200 {
			patterns = append(patterns, source.Uint32())
		}
		for _, pattern := range patterns {
			pattern &= uint32(1<<room - 1)
			other := turned(b, first, pattern)
			if !bytes.Equal(other, b) && bits.Sum(other) == sum {
				t.Fatalf("%x and %x have one sum, %x", b, other, sum)
			}
		}
	}
}

// turned tells b with those bits turned that are 1 in a pattern, which begins at the bit `first`.
func turned(b []byte, first int, pattern uint32) []byte {
	other := bytes.Clone(b)
	for i := range 32 {
		if pattern>>i&1 == 1 {
			other[(first+i)/8] ^= 1 << ((first + i) % 8)
		}
	}
	return other
}

// P1.11: short lists, each against all that differ from it in their last bytes.
func TestSumOfTwoBytes(t *testing.T) {
	seen := map[uint32]int{}
	for n := range 1 << 16 {
		sum := bits.Sum([]byte{'x', byte(n), byte(n >> 8), 'y'})
		if m, ok := seen[sum]; ok {
			t.Fatalf("%x and %x have one sum, %x", m, n, sum)
		}
		seen[sum] = n
	}
}
