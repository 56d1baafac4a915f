// Package bits: bits of words, words as bytes, a check sum, bytes written and read: see ../shared/doc/01-bits.md.
package bits

import "bulkhead/api"

// wordBits is how many bits a word has.
const wordBits = 32

// Field tells the bits of a word from a place on, so many.
func Field(w uint32, from, width int) (uint32, api.Errno) {
	if !hasBits(from, width) {
		return 0, api.ErrBitsPlace
	}
	return w >> from & ones(width), api.OK
}

// Put puts a value into these bits.
func Put(w uint32, from, width int, v uint32) (uint32, api.Errno) {
	if !hasBits(from, width) {
		return 0, api.ErrBitsPlace
	}
	if v > ones(width) {
		return 0, api.ErrBitsValue
	}
	return w&^(ones(width)<<from) | v<<from, api.OK
}

// Signed tells what so many bits mean as a signed number, Unsigned the bits of one.
func Signed(v uint32, width int) (int, api.Errno) {
	if !hasBits(0, width) {
		return 0, api.ErrBitsPlace
	}
	if v > ones(width) {
		return 0, api.ErrBitsValue
	}
	if v>>(width-1) == 0 {
		return int(v), api.OK
	}
	return int(int64(v) - int64(1)<<width), api.OK
}

func Unsigned(n, width int) (uint32, api.Errno) {
	if !hasBits(0, width) {
		return 0, api.ErrBitsPlace
	}
	half := int64(1) << (width - 1)
	if int64(n) < -half || int64(n) >= half {
		return 0, api.ErrBitsValue
	}
	return uint32(n) & ones(width), api.OK
}

// hasBits holds from against what the width leaves: the sum of the two could wrap round.
func hasBits(from, width int) bool {
	return from >= 0 && width >= 1 && from <= wordBits-width
}

// ones is the greatest number of so many bits, 1 to 32.
func ones(width int) uint32 {
	return ^uint32(0) >> (wordBits - width)
}
