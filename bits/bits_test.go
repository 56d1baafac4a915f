package bits_test

import (
	"math"
	"math/rand/v2"
	"testing"

	"bulkhead/api"
	"bulkhead/bits"
)

// someWords: words in which each bit is 0 once and 1 once, the ends, and words without a pattern.
func someWords() []uint32 {
	words := []uint32{0, 1, 5, 0x12345678, 0x55555555, 0xaaaaaaaa, 0x7fffffff, 0x80000000, 0xffffffff}
	source := rand.New(rand.NewPCG(1, 1))
	for range 20 {
		words = append(words, source.Uint32())
	}
	return words
}

// someInts: numbers around the bounds of places and widths, and those at which an int ends.
func someInts() []int {
	list := []int{math.MinInt, math.MinInt + 1, math.MinInt32, math.MaxInt32, math.MaxInt - 31, math.MaxInt - 1, math.MaxInt}
	for n := -3; n <= 35; n++ {
		list = append(list, n)
	}
	return list
}

// wordHas says by the document's words alone whether a word has these bits: each of them is one of 0 to 31.
func wordHas(from, width int) bool {
	return from >= 0 && from < 32 && width >= 1 && width <= 32 && from+width <= 32
}

// bitOf tells one bit.
func bitOf(w uint32, i int) uint32 {
	return w / uint32(1<<i) % 2
}

func TestErrorNumbers(t *testing.T) {
	rows := []struct {
		e    api.Errno
		want int
	}{
		{api.OK, 0},
		{api.ErrNil, 3},
		{api.ErrBitsPlace, 10},
		{api.ErrBitsValue, 11},
		{api.ErrBitsShort, 12},
		{api.ErrBitsLeft, 13},
		{api.ErrBitsMost, 14},
	}
	for _, x := range rows {
		if int(x.e) != x.want {
			t.Errorf("%v is not %d", x.e, x.want)
		}
	}
}

// P1.1
func TestFieldOfExamples(t *testing.T) {
	rows := []struct {
		w           uint32
		from, width int
		want        uint32
		e           api.Errno
	}{
		{0x12345678, 8, 12, 0x456, api.OK},
		{0x12345678, 0, 4, 8, api.OK},
		{0x12345678, 28, 4, 1, api.OK},
		{5, 0, 32, 5, api.OK},
		{0xffffffff, 0, 32, 0xffffffff, api.OK},
		{0x80000000, 31, 1, 1, api.OK},
		{5, 0, 0, 0, api.ErrBitsPlace},
		{5, 0, -1, 0, api.ErrBitsPlace},
		{5, 0, 33, 0, api.ErrBitsPlace},
		{5, 32, 0, 0, api.ErrBitsPlace},
		{5, 32, 1, 0, api.ErrBitsPlace},
		{5, 31, 2, 0, api.ErrBitsPlace},
		{5, -1, 3, 0, api.ErrBitsPlace},
		{5, 33, -1, 0, api.ErrBitsPlace},
		{5, math.MaxInt, math.MaxInt, 0, api.ErrBitsPlace},
		{5, math.MaxInt, 1, 0, api.ErrBitsPlace},
		{5, 1, math.MaxInt, 0, api.ErrBitsPlace},
		{5, math.MinInt, math.MinInt, 0, api.ErrBitsPlace},
		{5, math.MinInt, 1, 0, api.ErrBitsPlace},
	}
	for _, x := range rows {
		if got, e := bits.Field(x.w, x.from, x.width); got != x.want || e != x.e {
			t.Errorf("Field(%x, %d, %d) = %x, %v, not %x, %v", x.w, x.from, x.width, got, e, x.want, x.e)
		}
	}
}

// P1.1: of all places and widths, bit by bit.
func TestFieldBitByBit(t *testing.T) {
	for _, w := range someWords() {
		for _, from := range someInts() {
			for _, width := range someInts() {
				got, e := bits.Field(w, from, width)
				if !wordHas(from, width) {
					if got != 0 || e != api.ErrBitsPlace {
						t.Fatalf("Field(%x, %d, %d) = %x, %v", w, from, width, got, e)
					}
					continue
				}
				var want uint32
				for i := range width {
					want += bitOf(w, from+i) << i
				}
				if got != want || e != api.OK {
					t.Fatalf("Field(%x, %d, %d) = %x, %v, not %x", w, from, width, got, e, want)
				}
			}
		}
	}
}

// P1.1
func TestPutOfExamples(t *testing.T) {
	rows := []struct {
		w           uint32
		from, width int
		v, want     uint32
		e           api.Errno
	}{
		{0xffffffff, 4, 8, 0x12, 0xfffff12f, api.OK},
		{0, 4, 8, 0xff, 0xff0, api.OK},
		{0, 4, 8, 0x100, 0, api.ErrBitsValue},
		{0xffffffff, 4, 8, 0xffffffff, 0, api.ErrBitsValue},
		{7, 0, 32, 0xffffffff, 0xffffffff, api.OK},
		{0xffffffff, 0, 32, 0, 0, api.OK},
		{0, 31, 1, 1, 0x80000000, api.OK},
		{0, 31, 1, 2, 0, api.ErrBitsValue},
		{0, 32, 1, 2, 0, api.ErrBitsPlace},
		{0, 32, 1, 0, 0, api.ErrBitsPlace},
		{9, 0, 0, 0, 0, api.ErrBitsPlace},
		{9, 31, 2, 9, 0, api.ErrBitsPlace},
		{9, -1, 4, 1, 0, api.ErrBitsPlace},
		{9, math.MaxInt, math.MaxInt, 1, 0, api.ErrBitsPlace},
		{9, math.MinInt, math.MinInt, 1, 0, api.ErrBitsPlace},
	}
	for _, x := range rows {
		if got, e := bits.Put(x.w, x.from, x.width, x.v); got != x.want || e != x.e {
			t.Errorf("Put(%x, %d, %d, %x) = %x, %v, not %x, %v", x.w, x.from, x.width, x.v, got, e, x.want, x.e)
		}
	}
}

// P1.1 and P1.10: of all places and widths, what is put is told, and no other bit is changed.
func TestPutBitByBit(t *testing.T) {
	for _, w := range someWords() {
		for _, from := range someInts() {
			for _, width := range someInts() {
				for _, v := range someWords() {
					got, e := bits.Put(w, from, width, v)
					if want := wantOfPut(from, width, v); e != want {
						t.Fatalf("Put(%x, %d, %d, %x): %v, not %v", w, from, width, v, e, want)
					}
					if e != api.OK {
						if got != 0 {
							t.Fatalf("Put(%x, %d, %d, %x) = %x beside %v", w, from, width, v, got, e)
						}
						continue
					}
					if told, e := bits.Field(got, from, width); told != v || e != api.OK {
						t.Fatalf("Put(%x, %d, %d, %x) = %x, of which Field tells %x, %v", w, from, width, v, got, told, e)
					}
					for i := range 32 {
						if (i < from || i >= from+width) && bitOf(got, i) != bitOf(w, i) {
							t.Fatalf("Put(%x, %d, %d, %x) = %x changes bit %d", w, from, width, v, got, i)
						}
					}
				}
			}
		}
	}
}

func wantOfPut(from, width int, v uint32) api.Errno {
	if !wordHas(from, width) {
		return api.ErrBitsPlace
	}
	if uint64(v) >= uint64(1)<<width {
		return api.ErrBitsValue
	}
	return api.OK
}

// P1.2
func TestSignedOfExamples(t *testing.T) {
	rows := []struct {
		v     uint32
		width int
		want  int
		e     api.Errno
	}{
		{0x3ffff, 18, -1, api.OK},
		{0x20000, 18, -131072, api.OK},
		{0x1ffff, 18, 131071, api.OK},
		{0, 18, 0, api.OK},
		{0x40000, 18, 0, api.ErrBitsValue},
		{0, 1, 0, api.OK},
		{1, 1, -1, api.OK},
		{2, 1, 0, api.ErrBitsValue},
		{0x7fffffff, 32, 2147483647, api.OK},
		{0x80000000, 32, -2147483648, api.OK},
		{0xffffffff, 32, -1, api.OK},
		{0xffffffff, 31, 0, api.ErrBitsValue},
		{0, 0, 0, api.ErrBitsPlace},
		{7, 0, 0, api.ErrBitsPlace},
		{7, -1, 0, api.ErrBitsPlace},
		{7, 33, 0, api.ErrBitsPlace},
		{7, math.MaxInt, 0, api.ErrBitsPlace},
		{7, math.MinInt, 0, api.ErrBitsPlace},
	}
	for _, x := range rows {
		if got, e := bits.Signed(x.v, x.width); got != x.want || e != x.e {
			t.Errorf("Signed(%x, %d) = %d, %v, not %d, %v", x.v, x.width, got, e, x.want, x.e)
		}
	}
}

// P1.2
func TestUnsignedOfExamples(t *testing.T) {
	rows := []struct {
		n, width int
		want     uint32
		e        api.Errno
	}{
		{-1, 18, 0x3ffff, api.OK},
		{131071, 18, 0x1ffff, api.OK},
		{131072, 18, 0, api.ErrBitsValue},
		{-131072, 18, 0x20000, api.OK},
		{-131073, 18, 0, api.ErrBitsValue},
		{0, 1, 0, api.OK},
		{-1, 1, 1, api.OK},
		{1, 1, 0, api.ErrBitsValue},
		{-2, 1, 0, api.ErrBitsValue},
		{-2147483648, 32, 0x80000000, api.OK},
		{-2147483649, 32, 0, api.ErrBitsValue},
		{2147483647, 32, 0x7fffffff, api.OK},
		{2147483648, 32, 0, api.ErrBitsValue},
		{math.MaxInt, 32, 0, api.ErrBitsValue},
		{math.MinInt, 32, 0, api.ErrBitsValue},
		{1 << 32, 32, 0, api.ErrBitsValue},
		{0, 33, 0, api.ErrBitsPlace},
		{0, 0, 0, api.ErrBitsPlace},
		{0, -1, 0, api.ErrBitsPlace},
		{math.MaxInt, 0, 0, api.ErrBitsPlace},
		{0, math.MaxInt, 0, api.ErrBitsPlace},
		{0, math.MinInt, 0, api.ErrBitsPlace},
	}
	for _, x := range rows {
		if got, e := bits.Unsigned(x.n, x.width); got != x.want || e != x.e {
			t.Errorf("Unsigned(%d, %d) = %x, %v, not %x, %v", x.n, x.width, got, e, x.want, x.e)
		}
	}
}

// P1.2: of all numbers of few bits, by the document's words.
func TestSignedOfFewBits(t *testing.T) {
	for width := 1; width <= 10; width++ {
		top := 1 << width
		for v := range 2 * top {
			got, e := bits.Signed(uint32(v), width)
			want, wantE := v, api.OK
			if v >= top {
				want, wantE = 0, api.ErrBitsValue
			} else if v >= top/2 {
				want = v - top
			}
			if got != want || e != wantE {
				t.Fatalf("Signed(%x, %d) = %d, %v, not %d, %v", v, width, got, e, want, wantE)
			}
		}
	}
}

// P1.10: Signed and Unsigned undo one another, and refuse alike.
func TestSignedAndUnsignedUndoOneAnother(t *testing.T) {
	for width := 1; width <= 32; width++ {
		half := 1 << (width - 1)
		for _, n := range []int{-half - 1, -half, -half + 1, -1, 0, 1, half - 1, half, half + 1} {
			v, e := bits.Unsigned(n, width)
			if n < -half || n >= half {
				if v != 0 || e != api.ErrBitsValue {
					t.Fatalf("Unsigned(%d, %d) = %x, %v", n, width, v, e)
				}
				continue
			}
			if back, e2 := bits.Signed(v, width); e != api.OK || e2 != api.OK || back != n {
				t.Fatalf("Unsigned(%d, %d) = %x, %v, of which Signed makes %d, %v", n, width, v, e, back, e2)
			}
		}
		for _, v := range someWords() {
			v = uint32(uint64(v) % (1 << width))
			n, e := bits.Signed(v, width)
			if back, e2 := bits.Unsigned(n, width); e != api.OK || e2 != api.OK || back != v {
				t.Fatalf("Signed(%x, %d) = %d, %v, of which Unsigned makes %x, %v", v, width, n, e, back, e2)
			}
		}
	}
}
