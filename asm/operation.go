package asm

import (
	"bulkhead/api"
	"bulkhead/isa"
)

// The two operations that are no instructions, numbered behind those that are.
const (
	wordName  = "word"
	spaceName = "space"
	opWord    = api.OpEnd
	opSpace   = api.OpEnd + 1
)

// letterImm stands for an Imm among the letters of a form; all others stand for registers.
const letterImm = 'i'

// letters: the operands of each form in their order: reading and writing both go by them.
var letters = [...]string{
	api.FormNone: "",
	api.FormA:    "a",
	api.FormAB:   "ab",
	api.FormABC:  "abc",
	api.FormAI:   "ai",
	api.FormABI:  "abi",
	api.FormI:    "i",
}

// part tells where an instruction keeps the operand of a letter.
func part(ins *api.Ins, letter rune) *int {
	switch letter {
	case 'a':
		return &ins.A
	case 'b':
		return &ins.B
	case 'c':
		return &ins.C
	}
	return &ins.Imm
}

// find tells an operation by its name, the two that are no instructions too.
func find(name string) (int, bool) {
	switch name {
	case wordName:
		return opWord, true
	case spaceName:
		return opSpace, true
	}
	return isa.Find(name)
}

// takes says whether an operation may have so many operands.
func takes(op, operands int) bool {
	switch op {
	case opWord:
		return operands > 0
	case opSpace:
		return operands == 1
	}
	return operands == len(letters[isa.Form(op)])
}

// goesOn says whether an operation's Imm is reckoned from its own place.
func goesOn(op int) bool { return op >= api.OpBeq && op <= api.OpJal }
