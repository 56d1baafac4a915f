package isa_test

import (
	"math"
	"math/rand/v2"
	"strings"
	"testing"

	"bulkhead/api"
	"bulkhead/isa"
)

// known: a row of the document's table of operations, with the operands written as letters (I stands for Imm).
type known struct {
	op       int
	name     string
	form     int
	operands string
	cost     int
}

// document is that table, by the numbers that it prints and not by what package api calls them.
func document() []known {
	return []known{
		{1, "nop", 1, "", 1},
		{2, "mov", 3, "AB", 1},
		{3, "li", 5, "AI", 1},
		{4, "hi", 5, "AI", 1},
		{5, "add", 4, "ABC", 1},
		{6, "sub", 4, "ABC", 1},
		{7, "mul", 4, "ABC", 3},
		{8, "div", 4, "ABC", 8},
		{9, "rem", 4, "ABC", 8},
		{10, "and", 4, "ABC", 1},
		{11, "or", 4, "ABC", 1},
		{12, "xor", 4, "ABC", 1},
		{13, "shl", 4, "ABC", 1},
		{14, "shr", 4, "ABC", 1},
		{15, "sar", 4, "ABC", 1},
		{16, "slt", 4, "ABC", 1},
		{17, "sltu", 4, "ABC", 1},
		{18, "addi", 6, "ABI", 1},
		{19, "ld", 6, "ABI", 1},
		{20, "st", 6, "ABI", 1},
		{21, "beq", 6, "ABI", 1},
		{22, "bne", 6, "ABI", 1},
		{23, "blt", 6, "ABI", 1},
		{24, "bge", 6, "ABI", 1},
		{25, "bltu", 6, "ABI", 1},
		{26, "jmp", 7, "I", 1},
		{27, "jal", 5, "AI", 1},
		{28, "jr", 2, "A", 1},
		{29, "cyc", 2, "A", 1},
		{30, "hyp", 7, "I", 24},
	}
}

// noOperations: numbers beside the thirty, those among them that a narrower kind of number would take for one.
func noOperations() []int {
	return []int{math.MinInt, math.MinInt + 1, math.MinInt32, -64, -31, -30, -1, 0, 31, 32, 63, 64, 65, 99, 256 + 1, 1<<16 + 1, math.MaxInt32, 1<<32 + 1, 1<<32 + 30, math.MaxInt}
}

// has says whether an operation has an operand.
func (k known) has(letter string) bool { return strings.Contains(k.operands, letter) }

// immBits: Imm if it is 0 or above, else Imm and 2^18.
func immBits(imm int) uint32 {
	if imm < 0 {
		imm += 262144
	}
	return uint32(imm)
}

// wordOf reckons an instruction's word by the document's sum.
func (k known) wordOf(i api.Ins) uint32 {
	w := uint32(k.op) * 67108864
	if k.has("A") {
		w += uint32(i.A) * 4194304
	}
	if k.has("B") {
		w += uint32(i.B) * 262144
	}
	if k.has("C") {
		w += uint32(i.C) * 16384
	}
	if k.has("I") {
		w += immBits(i.Imm)
	}
	return w
}

// someImms: the ends, what lies within them, and single bits.
func someImms() []int {
	list := []int{-131072, -131071, -65537, -65536, -7, -2, -1, 0, 1, 2, 7, 65535, 65536, 131070, 131071}
	for n := 1; n < 131072; n *= 2 {
		list = append(list, n, -n)
	}
	return list
}

// oneOperandEach: instructions of an operation in which one operand after the other goes through its values, the others standing at their ends or at 0.
func (k known) oneOperandEach() []api.Ins {
	var list []api.Ins
	for _, rest := range []int{0, 15} {
		whole := api.Ins{Op: k.op}
		if k.has("A") {
			whole.A = rest
		}
		if k.has("B") {
			whole.B = rest
		}
		if k.has("C") {
			whole.C = rest
		}
		if k.has("I") {
			whole.Imm = -rest
		}
		list = append(list, whole)
		for n := range 16 {
			if k.has("A") {
				i := whole
				i.A = n
				list = append(list, i)
			}
			if k.has("B") {
				i := whole
				i.B = n
				list = append(list, i)
			}
			if k.has("C") {
				i := whole
				i.C = n
				list = append(list, i)
			}
		}
		if k.has("I") {
			for _, n := range someImms() {
				i := whole
				i.Imm = n
				list = append(list, i)
			}
		}
	}
	return list
}

// anyInstruction: one without a pattern, of a given operation.
func (k known) anyInstruction(source *rand.Rand) api.Ins {
	i := api.Ins{Op: k.op}
	if k.has("A") {
		i.A = source.IntN(16)
	}
	if k.has("B") {
		i.B = source.IntN(16)
	}
	if k.has("C") {
		i.C = source.IntN(16)
	}
	if k.has("I") {
		i.Imm = source.IntN(262144) - 131072
	}
	return i
}

func wantWord(t *testing.T, i api.Ins, want uint32) {
	t.Helper()
	if w, e := isa.Encode(i); w != want || e != api.OK {
		t.Errorf("Encode(%+v) = %#08x, %d, not %#08x, 0", i, w, e, want)
	}
}

func wantNoWord(t *testing.T, i api.Ins) {
	t.Helper()
	if w, e := isa.Encode(i); w != 0 || e != api.ErrIsaIns {
		t.Errorf("Encode(%+v) = %#08x, %d, not 0, %d", i, w, e, api.ErrIsaIns)
	}
}

func wantIns(t *testing.T, w uint32, want api.Ins) {
	t.Helper()
	if i, e := isa.Decode(w); i != want || e != api.OK {
		t.Errorf("Decode(%#08x) = %+v, %d, not %+v, 0", w, i, e, want)
	}
}

func wantNoIns(t *testing.T, w uint32) {
	t.Helper()
	if i, e := isa.Decode(w); i != (api.Ins{}) || e != api.ErrIsaWord {
		t.Errorf("Decode(%#08x) = %+v, %d, not none, %d", w, i, e, api.ErrIsaWord)
	}
}

// The section 'Errors'.
func TestErrorNumbers(t *testing.T) {
	if api.ErrIsaWord != 20 || api.ErrIsaIns != 21 {
		t.Errorf("ErrIsaWord %d, ErrIsaIns %d, not 20, 21", int(api.ErrIsaWord), int(api.ErrIsaIns))
	}
}

// P2.1.
func TestForm(t *testing.T) {
	for _, k := range document() {
		if f := isa.Form(k.op); f != k.form {
			t.Errorf("Form(%d) = %d, not %d", k.op, f, k.form)
		}
	}
	for _, op := range noOperations() {
		if f := isa.Form(op); f != 0 {
			t.Errorf("Form(%d) = %d, not 0", op, f)
		}
	}
}

// P2.1: the forms' own numbers, by their names in package api.
func TestFormsByName(t *testing.T) {
	rows := []struct{ op, form int }{
		{api.OpNop, api.FormNone},
		{api.OpJr, api.FormA},
		{api.OpCyc, api.FormA},
		{api.OpMov, api.FormAB},
		{api.OpSltu, api.FormABC},
		{api.OpJal, api.FormAI},
		{api.OpLd, api.FormABI},
		{api.OpHyp, api.FormI},
	}
	for _, x := range rows {
		if f := isa.Form(x.op); f != x.form {
			t.Errorf("Form(%d) = %d, not %d", x.op, f, x.form)
		}
	}
}

// P2.2: Name.
func TestName(t *testing.T) {
	for _, k := range document() {
		if s := isa.Name(k.op); s != k.name {
			t.Errorf("Name(%d) = %q, not %q", k.op, s, k.name)
		}
	}
	for _, op := range noOperations() {
		if s := isa.Name(op); s != "" {
			t.Errorf("Name(%d) = %q, not the empty text", op, s)
		}
	}
}

// P2.2: Find.
func TestFind(t *testing.T) {
	for _, k := range document() {
		if op, ok := isa.Find(k.name); op != k.op || !ok {
			t.Errorf("Find(%q) = %d, %t, not %d, true", k.name, op, ok, k.op)
		}
	}
}

// nearNames: texts that are nearly an operation's name.
func nearNames(name string) []string {
	return []string{
		strings.ToUpper(name),
		strings.ToUpper(name[:1]) + name[1:],
		" " + name,
		name + " ",
		name + "\n",
		"\t" + name,
		name[:1] + " " + name[1:],
		name + "\x00",
		"\xff" + name,
		"\ufeff" + name,
		name + "x",
		name + "\u0301",
		name + name,
	}
}

// P2.2: Find of what is no name.
func TestFindNone(t *testing.T) {
	texts := []string{"", " ", "\x00", "\xff\xfe", "sl", "ad", "a", "no", "slt u", "\u0430dd", "1", "17", "none", "hypp", strings.Repeat("nop", 100000)}
	for _, k := range document() {
		texts = append(texts, nearNames(k.name)...)
	}
	for _, s := range texts {
		if op, ok := isa.Find(s); op != 0 || ok {
			t.Errorf("Find(%.40q) = %d, %t, not 0, false", s, op, ok)
		}
	}
}

// P2.3.
func TestCost(t *testing.T) {
	for _, k := range document() {
		if c := isa.Cost(k.op); c != k.cost {
			t.Errorf("Cost(%d) = %d, not %d", k.op, c, k.cost)
		}
	}
	for _, op := range noOperations() {
		if c := isa.Cost(op); c != 0 {
			t.Errorf("Cost(%d) = %d, not 0", op, c)
		}
	}
}

// P2.4, P2.5: the section 'Examples'.
func TestExamples(t *testing.T) {
	rows := []struct {
		i api.Ins
		w uint32
	}{
		{api.Ins{Op: api.OpNop}, 0x04000000},
		{api.Ins{Op: api.OpMov, A: 1, B: 2}, 0x08480000},
		{api.Ins{Op: api.OpLi, A: 1, Imm: -1}, 0x0C43FFFF},
		{api.Ins{Op: api.OpAdd, A: 3, B: 1, C: 2}, 0x14C48000},
		{api.Ins{Op: api.OpSt, A: 15, Imm: 131071}, 0x53C1FFFF},
		{api.Ins{Op: api.OpJmp, Imm: -1}, 0x6803FFFF},
		{api.Ins{Op: api.OpHyp, Imm: 7}, 0x78000007},
	}
	for _, x := range rows {
		wantWord(t, x.i, x.w)
		wantIns(t, x.w, x.i)
	}
	none := []api.Ins{
		{Op: api.OpNop, A: 1},
		{Op: api.OpAdd, A: 16},
		{Op: api.OpLi, Imm: 131072},
		{Op: api.OpLi, Imm: -131073},
		{},
		{Op: 31},
	}
	for _, i := range none {
		wantNoWord(t, i)
	}
	for _, w := range []uint32{0, 0x04000001, 0x08480001, 0x14C48001, 0x7C000000} {
		wantNoIns(t, w)
	}
}

// P2.4: the words of all operations, each operand through its values.
func TestEncode(t *testing.T) {
	for _, k := range document() {
		for _, i := range k.oneOperandEach() {
			wantWord(t, i, k.wordOf(i))
		}
	}
}

// P2.4: no such operation.
func TestEncodeNoOperation(t *testing.T) {
	for _, op := range noOperations() {
		wantNoWord(t, api.Ins{Op: op})
		wantNoWord(t, api.Ins{Op: op, A: 1, B: 2, C: 3})
		wantNoWord(t, api.Ins{Op: op, A: 1, Imm: 5})
	}
}

// outside: numbers that no register has; among them those of which the lowest bits are a register's.
func outside() []int {
	return []int{math.MinInt, math.MinInt32, -16, -1, 16, 17, 31, 32, 256, 65536, math.MaxInt32, 1 << 32, 1<<32 + 1, math.MaxInt}
}

// P2.4: a register outside of its bounds, or one that the form doesn't have.
func TestEncodeWrongRegister(t *testing.T) {
	for _, k := range document() {
		for _, n := range outside() {
			wantNoWord(t, api.Ins{Op: k.op, A: n})
			wantNoWord(t, api.Ins{Op: k.op, B: n})
			wantNoWord(t, api.Ins{Op: k.op, C: n})
		}
		for n := 1; n < 16; n++ {
			if !k.has("A") {
				wantNoWord(t, api.Ins{Op: k.op, A: n})
			}
			if !k.has("B") {
				wantNoWord(t, api.Ins{Op: k.op, B: n})
			}
			if !k.has("C") {
				wantNoWord(t, api.Ins{Op: k.op, C: n})
			}
		}
	}
}

// P2.4: an Imm outside of its bounds, or where the form has none.
func TestEncodeWrongImm(t *testing.T) {
	beyond := []int{math.MinInt, math.MinInt32, -1 << 32, -262144, -131074, -131073, 131072, 131073, 262143, 262144, math.MaxInt32, 1 << 32, 1<<32 + 1, math.MaxInt}
	for _, k := range document() {
		for _, n := range beyond {
			wantNoWord(t, api.Ins{Op: k.op, Imm: n})
		}
		if k.has("I") {
			continue
		}
		for _, n := range someImms() {
			if n != 0 {
				wantNoWord(t, api.Ins{Op: k.op, Imm: n})
			}
		}
	}
}

// P2.5: the instructions of all operations, each operand through its values.
func TestDecode(t *testing.T) {
	for _, k := range document() {
		for _, i := range k.oneOperandEach() {
			wantIns(t, k.wordOf(i), i)
		}
	}
}

// bitsOf: the bits below the operation's that the form gives a meaning.
func (k known) bitsOf() uint32 {
	var all uint32
	if k.has("A") {
		all |= 0x03C00000
	}
	if k.has("B") {
		all |= 0x003C0000
	}
	if k.has("C") {
		all |= 0x0003C000
	}
	if k.has("I") {
		all |= 0x0003FFFF
	}
	return all
}

// P2.5: each bit that belongs to no operand makes a word none, whatever the others are.
func TestDecodeOtherBits(t *testing.T) {
	for _, k := range document() {
		top := uint32(k.op) << 26
		mine := k.bitsOf()
		for n := range 26 {
			bit := uint32(1) << n
			if bit&mine != 0 {
				continue
			}
			wantNoIns(t, top|bit)
			wantNoIns(t, top|mine|bit)
		}
	}
}

// P2.5: no word of an operation that is none.
func TestDecodeNoOperation(t *testing.T) {
	source := rand.New(rand.NewPCG(2, 5))
	for op := range uint32(64) {
		if op >= 1 && op <= 30 {
			continue
		}
		wantNoIns(t, op<<26)
		wantNoIns(t, op<<26|0x03FFFFFF)
		for n := range 26 {
			wantNoIns(t, op<<26|1<<n)
		}
		for range 100 {
			wantNoIns(t, op<<26|source.Uint32()>>6)
		}
	}
}

// P2.5: words without a pattern have an instruction just where the document's sum makes one.
func TestDecodeAnyWord(t *testing.T) {
	source := rand.New(rand.NewPCG(2, 6))
	table := document()
	for range 200000 {
		w := source.Uint32()
		op := w >> 26
		if op == 0 || op > 30 || w&0x03FFFFFF&^table[op-1].bitsOf() != 0 {
			wantNoIns(t, w)
			continue
		}
		i, e := isa.Decode(w)
		if e != api.OK || table[op-1].wordOf(i) != w {
			t.Errorf("Decode(%#08x) = %+v, %d", w, i, e)
		}
	}
}

// P2.6: there and back again, from instructions and from words.
func TestBackAndForth(t *testing.T) {
	source := rand.New(rand.NewPCG(2, 7))
	for _, k := range document() {
		for range 2000 {
			i := k.anyInstruction(source)
			w, e := isa.Encode(i)
			if e != api.OK {
				t.Fatalf("Encode(%+v): %d", i, e)
			}
			wantIns(t, w, i)
			other := uint32(k.op)<<26 | source.Uint32()&k.bitsOf()
			back, e := isa.Decode(other)
			if e != api.OK {
				t.Fatalf("Decode(%#08x): %d", other, e)
			}
			wantWord(t, back, other)
		}
	}
}

// P2.6: unlike instructions have unlike words.
func TestUnlikeWords(t *testing.T) {
	source := rand.New(rand.NewPCG(2, 8))
	of := map[uint32]api.Ins{}
	hold := func(i api.Ins) {
		w, e := isa.Encode(i)
		if e != api.OK {
			t.Fatalf("Encode(%+v): %d", i, e)
		}
		if other, there := of[w]; there && other != i {
			t.Errorf("%+v and %+v have one word, %#08x", i, other, w)
		}
		of[w] = i
	}
	for _, k := range document() {
		for _, i := range k.oneOperandEach() {
			hold(i)
		}
		for range 2000 {
			hold(k.anyInstruction(source))
		}
	}
}

// P2.6: Find of Name is the operation, and no two have one name.
func TestNamesApart(t *testing.T) {
	of := map[string]int{}
	for op := 1; op <= 30; op++ {
		s := isa.Name(op)
		if other, there := of[s]; there {
			t.Errorf("%d and %d have one name, %q", op, other, s)
		}
		of[s] = op
		if found, ok := isa.Find(s); found != op || !ok {
			t.Errorf("Find(Name(%d)) = %d, %t", op, found, ok)
		}
	}
}

// DOC.md's costs: a call costs CostCall, and no operation costs more than an instruction may.
func TestCostBounds(t *testing.T) {
	if c := isa.Cost(api.OpHyp); c != api.CostCall {
		t.Errorf("Cost(hyp) = %d, not CostCall", c)
	}
	for op := 1; op <= 30; op++ {
		if c := isa.Cost(op); c < 1 || c > api.MostCost {
			t.Errorf("Cost(%d) = %d", op, c)
		}
	}
}
