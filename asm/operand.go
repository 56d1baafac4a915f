package asm

import (
	"strconv"
	"strings"

	"bulkhead/api"
)

// The numbers that an Imm holds, and the least one that may be written; the greatest is that of 32 bits.
const (
	leastImm    = -131072
	mostImm     = 131071
	leastNumber = -2147483648
)

// Kinds of operands.
const (
	aNumber = iota
	aRegister
	aName
)

// operand: its kind; a number's or a register's number; a name. What it does not have is 0 or empty.
type operand struct {
	kind   int
	number int64
	name   string
}

// operandOf reads a piece that stands as an operand.
func operandOf(piece string) operand {
	if piece[0] == '-' || isDigit(piece[0]) {
		n, ok := numberOf(piece)
		if !ok {
			giveUp(api.ErrAsmNumber)
		}
		return operand{kind: aNumber, number: n}
	}
	if n, ok := registerOf(piece); ok {
		return operand{kind: aRegister, number: int64(n)}
	}
	if !isName(piece) {
		giveUp(api.ErrAsmName)
	}
	return operand{kind: aName, name: piece}
}

// register tells the operand's register, at a place that wants one.
func (o operand) register() int {
	if o.kind != aRegister {
		giveUp(api.ErrAsmLine)
	}
	return int(o.number)
}

// value tells the operand's number, at a place that wants a number or a name; a name's is 0 yet.
func (o operand) value() int64 {
	if o.kind == aRegister {
		giveUp(api.ErrAsmLine)
	}
	return o.number
}

// count tells the operand's number, at a place that wants a number and no name.
func (o operand) count() int64 {
	if o.kind != aNumber {
		giveUp(api.ErrAsmLine)
	}
	return o.number
}

// within hands a number on that its place holds.
func within(n, least, most int64) int64 {
	if n < least || n > most {
		giveUp(api.ErrAsmReach)
	}
	return n
}

// numberOf reads a number; false, if the piece is none.
func numberOf(piece string) (int64, bool) {
	digits, minus := strings.CutPrefix(piece, "-")
	base := 10
	if hexadecimal, ok := strings.CutPrefix(digits, "0x"); ok {
		digits, base = hexadecimal, 16
	}
	// ParseUint takes neither a sign nor a prefix, and no empty text.
	n, err := strconv.ParseUint(digits, base, 32)
	number := int64(n)
	if minus {
		number = -number
	}
	return number, err == nil && number >= leastNumber
}

// registerOf tells the register that a piece names; false, if it names none.
func registerOf(piece string) (int, bool) {
	for n := range api.Registers {
		if piece == registerName(n) {
			return n, true
		}
	}
	return 0, false
}

// registerName writes a register.
func registerName(n int) string { return "r" + strconv.Itoa(n) }

// isName says whether a piece may be a label's name.
func isName(piece string) bool {
	if len(piece) > api.MaxName || isDigit(piece[0]) || strings.Contains(piece, "-") {
		return false
	}
	_, register := registerOf(piece)
	_, operation := find(piece)
	return !register && !operation
}

// isDigit says whether a byte is a decimal digit.
func isDigit(c byte) bool { return c >= '0' && c <= '9' }
