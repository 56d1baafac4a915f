package isa

import "bulkhead/api"

// operation: what is known of an operation beside its number.
type operation struct {
	name       string
	form, cost int
}

// operations stand by their numbers. Row 0 is nobody's: it answers for all numbers that are no operation's.
var operations = [api.OpEnd]operation{
	api.OpNop:  {"nop", api.FormNone, 1},
	api.OpMov:  {"mov", api.FormAB, 1},
	api.OpLi:   {"li", api.FormAI, 1},
	api.OpHi:   {"hi", api.FormAI, 1},
	api.OpAdd:  {"add", api.FormABC, 1},
	api.OpSub:  {"sub", api.FormABC, 1},
	api.OpMul:  {"mul", api.FormABC, 3},
	api.OpDiv:  {"div", api.FormABC, 8},
	api.OpRem:  {"rem", api.FormABC, 8},
	api.OpAnd:  {"and", api.FormABC, 1},
	api.OpOr:   {"or", api.FormABC, 1},
	api.OpXor:  {"xor", api.FormABC, 1},
	api.OpShl:  {"shl", api.FormABC, 1},
	api.OpShr:  {"shr", api.FormABC, 1},
	api.OpSar:  {"sar", api.FormABC, 1},
	api.OpSlt:  {"slt", api.FormABC, 1},
	api.OpSltu: {"sltu", api.FormABC, 1},
	api.OpAddi: {"addi", api.FormABI, 1},
	api.OpLd:   {"ld", api.FormABI, 1},
	api.OpSt:   {"st", api.FormABI, 1},
	api.OpBeq:  {"beq", api.FormABI, 1},
	api.OpBne:  {"bne", api.FormABI, 1},
	api.OpBlt:  {"blt", api.FormABI, 1},
	api.OpBge:  {"bge", api.FormABI, 1},
	api.OpBltu: {"bltu", api.FormABI, 1},
	api.OpJmp:  {"jmp", api.FormI, 1},
	api.OpJal:  {"jal", api.FormAI, 1},
	api.OpJr:   {"jr", api.FormA, 1},
	api.OpCyc:  {"cyc", api.FormA, 1},
	api.OpHyp:  {"hyp", api.FormI, api.CostCall},
}

// shape: which operands a form has.
type shape struct{ a, b, c, imm bool }

// shapes stand by the forms' numbers. Form 0, of what is no operation, has no operands.
var shapes = [...]shape{
	api.FormNone: {},
	api.FormA:    {a: true},
	api.FormAB:   {a: true, b: true},
	api.FormABC:  {a: true, b: true, c: true},
	api.FormAI:   {a: true, imm: true},
	api.FormABI:  {a: true, b: true, imm: true},
	api.FormI:    {imm: true},
}

// Form tells which operands an operation has; 0: there is no such operation.
func Form(op int) int { return operations[row(op)].form }

// Name tells an operation's name, Find the operation of a name.
func Name(op int) string { return operations[row(op)].name }

func Find(name string) (int, bool) {
	for op := api.OpNop; op < api.OpEnd; op++ {
		if operations[op].name == name {
			return op, true
		}
	}
	return 0, false
}

// Cost tells what an operation costs by itself.
func Cost(op int) int { return operations[row(op)].cost }

// row tells the row that speaks of an operation: 0, if there is none.
func row(op int) int {
	if op < 0 || op >= api.OpEnd {
		return 0
	}
	return op
}
