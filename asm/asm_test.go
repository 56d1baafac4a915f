package asm_test

import (
	"slices"
	"strconv"
	"strings"
	"testing"

	"bulkhead/api"
	"bulkhead/asm"
	"bulkhead/isa"
)

// The bounds by the numbers that the document prints.
const (
	mostText    = 65536
	mostProgram = 1024
	leastImm    = -131072
	mostImm     = 131071
)

// word tells the word of an instruction, part by part as the document prints it.
func word(op, a, b, c, imm int) uint32 {
	return uint32(op)<<26 | uint32(a)<<22 | uint32(b)<<18 | uint32(c)<<14 | uint32(imm)&(1<<18-1)
}

// reads asks for words.
func reads(t *testing.T, source string, want ...uint32) {
	t.Helper()
	got, line, e := asm.Assemble(source)
	if e != api.OK || line != 0 || !slices.Equal(got, want) {
		t.Errorf("%.200q: %v, line %d, error %d; want %v", source, got, line, e, want)
	}
}

// refuses asks for an error at a line.
func refuses(t *testing.T, source string, line int, e api.Errno) {
	t.Helper()
	got, gotLine, gotE := asm.Assemble(source)
	if gotE != e || gotLine != line || len(got) != 0 {
		t.Errorf("%.200q: %v, line %d, error %d; want line %d, error %d", source, got, gotLine, gotE, line, e)
	}
}

// slashed makes a source of lines that are parted by slashes, as the document writes its examples.
func slashed(source string) string { return strings.ReplaceAll(source, " / ", "\n") }

// The section 'Examples', all that Assemble reads (P4.1, P4.2).
func TestExamplesAreRead(t *testing.T) {
	reads(t, slashed("li r1, 5 / loop: addi r1, r1, -1 / bne r1, r0, loop / hyp 7"), word(3, 1, 0, 0, 5), word(18, 1, 1, 0, -1), word(22, 1, 0, 0, -1), word(30, 0, 0, 0, 7))
	reads(t, slashed("ld r2, r0, data / jmp 0 / data: word 7, 0xff, data, -1"), word(19, 2, 0, 0, 2), word(26, 0, 0, 0, 0), 7, 255, 2, 4294967295)
	reads(t, slashed("a: / b: space 2 / word b"), 0, 0, 0)
	reads(t, "word -0x10", 4294967280)
	reads(t, "")
	reads(t, "; only this")
}

// The section 'Examples', all that Assemble refuses (P4.1, P4.2).
func TestExamplesAreRefused(t *testing.T) {
	for e, sources := range map[api.Errno][]string{
		api.ErrAsmLine:   {"add r1, r2", "frob r1", "nop nop", "li r1 5", "a b: nop", "mov r1, 5", "li 5, 5", "space x"},
		api.ErrAsmName:   {"nop: nop", "jmp a-b"},
		api.ErrAsmLabel:  {"li r1, r16"},
		api.ErrAsmNumber: {"li r1, 5x", "li r1, -", "word 4294967296"},
		api.ErrAsmReach:  {"li r1, 131072", "space 1025"},
	} {
		for _, source := range sources {
			refuses(t, source, 1, e)
		}
	}
	refuses(t, "x:\nx:", 2, api.ErrAsmName)
	refuses(t, slashed("space 1024 / nop"), 2, api.ErrAsmLong)
	refuses(t, slashed("jmp x / li r1, 200000"), 2, api.ErrAsmReach)
}

// P4.1: more than MaxText bytes are refused whole, whatever stands in them.
func TestTextThatIsTooLong(t *testing.T) {
	for _, fill := range []string{"\n", " ", ";", "!", "x"} {
		refuses(t, strings.Repeat(fill, mostText+1), 0, api.ErrLong)
	}
	reads(t, strings.Repeat("\n", mostText))
	reads(t, ";"+strings.Repeat("!", mostText-1))
	refuses(t, strings.Repeat("!", mostText), 1, api.ErrAsmLine)
	refuses(t, strings.Repeat("\n", mostText-1)+"!", mostText, api.ErrAsmLine)
}

// The section 'Lines': blanks between parts, as many as one likes or none, change nothing; nor do comments.
func TestBlanksAndComments(t *testing.T) {
	add := word(5, 1, 2, 3, 0)
	for _, blank := range []string{"", " ", "\t", "\r", " \t\r \r\t"} {
		source := strings.ReplaceAll("~x~:~add r1~,~r2~,~r3~", "~", blank)
		for _, s := range []string{source, source + ";", source + "; add r1", source + ";;:,!\x00\xff\r\t;", source + "\n"} {
			reads(t, s, add)
			reads(t, s+"\n"+blank+"nop", add, word(1, 0, 0, 0, 0))
		}
		reads(t, blank+"\n"+blank+";!\n"+blank)
	}
	for _, blank := range []string{" ", "\t", "\r", "\r\r"} {
		reads(t, "word"+blank+"7", 7)
	}
	refuses(t, ";\nadd;r1, r2, r3", 2, api.ErrAsmLine)
	reads(t, "nop;\n;nop\nnop", word(1, 0, 0, 0, 0), word(1, 0, 0, 0, 0))
}

// The section 'Lines': which bytes stand in a line, and what each of them is there.
func TestEveryByte(t *testing.T) {
	for c := range 256 {
		b := string([]byte{byte(c)})
		between := "word 1" + b + "0"
		switch {
		case strings.Contains("0123456789", b):
			n, _ := strconv.Atoi("1" + b + "0")
			reads(t, between, uint32(n))
		case strings.Contains("abcdefghijklmnopqrstuvwxyzABCDEFGHIJKLMNOPQRSTUVWXYZ_-", b):
			refuses(t, between, 1, api.ErrAsmNumber)
		case c == ',':
			reads(t, between, 1, 0)
		case c == ';':
			reads(t, between, 1)
		case c == '\n': // the second line has an operation that is none
			refuses(t, between, 2, api.ErrAsmLine)
		default: // two operands without a comma, or what may not be there
			refuses(t, between, 1, api.ErrAsmLine)
		}
		behind := "word 1 " + b
		if strings.Contains(" \t\r\n;", b) {
			reads(t, behind, 1)
		} else {
			refuses(t, behind, 1, api.ErrAsmLine)
		}
		reads(t, "word 1;"+strings.ReplaceAll(b, "\n", ""), 1)
	}
}

// P4.1, 1: lines that are not of the form.
func TestLinesThatAreNone(t *testing.T) {
	for _, line := range []string{
		":", ",", "::", ",,", ": nop", "x: :", "x::", "x: y: nop", "x, y", "x,", ",x", "nop,", "nop ,", "nop:,", ", nop", "x: , nop",
		"word 1,", "word ,1", "word 1,,2", "word 1 2", "word 1, 2 3", "word 1: 2", "word 1, 2:", "word: 1:", "word 1, :", "word , 1, 2", "a b: nop", "a b:", "jmp a:", "x: jmp a:",
		"li r1 5", "li r1; , 5", "add r1, r2, r3,", "add r1 r2 r3",
		"nop !", "!", "n.op", "nop\x00", "nop\x0b", "nop\x0c", "nop\u00a0", "nöp", "\xff", "nop +", "word +1", "word 'a'", "word \"a\"", "word (1)", "nop #", "nop //", "jmp $", "jmp @x", "x.y:", "word 1.5",
	} {
		refuses(t, line, 1, api.ErrAsmLine)
		refuses(t, "\nnop ; so\n"+line+"\n!", 3, api.ErrAsmLine)
	}
}

// P4.1, 1: an operation that is none, also where a label or operands stand by it.
func TestOperationsThatAreNone(t *testing.T) {
	for _, name := range []string{"frob", "NOP", "Nop", "nop1", "nop-", "-nop", "no", "words", "Word", "WORD", "spac", "Space", "r1", "5", "-", "-5", "_", "0x1", "x", strings.Repeat("nop", 1000)} {
		for _, line := range []string{name, name + " r1", name + " 1, 2", "x: " + name, "x: " + name + " 5", name + " 5x", name + " nop"} {
			refuses(t, line, 1, api.ErrAsmLine)
		}
	}
}

// operandsOf: operands that the places of a form hold, so many.
func operandsOf(form, n int) string {
	full := map[int][]string{api.FormA: {"r1"}, api.FormAB: {"r1", "r2"}, api.FormABC: {"r1", "r2", "r3"}, api.FormAI: {"r1", "4"}, api.FormABI: {"r1", "r2", "4"}, api.FormI: {"4"}}[form]
	for len(full) < n {
		full = append(full, "r5")
	}
	return strings.Join(full[:n], ", ")
}

// count tells how many operands a form has.
func count(form int) int {
	return map[int]int{api.FormA: 1, api.FormAB: 2, api.FormABC: 3, api.FormAI: 2, api.FormABI: 3, api.FormI: 1}[form]
}

// P4.1, 1: each operation has as many operands as its form says; word one or more, space one.
func TestNumberOfOperands(t *testing.T) {
	for op := 1; op <= 30; op++ {
		form := isa.Form(op)
		for n := range 6 {
			line := isa.Name(op) + " " + operandsOf(form, n)
			if n != count(form) {
				refuses(t, line, 1, api.ErrAsmLine)
				continue
			}
			has := api.Ins{Op: op}
			if n > 0 && form != api.FormI {
				has.A = 1
			}
			if form == api.FormAB || form == api.FormABC || form == api.FormABI {
				has.B = 2
			}
			if form == api.FormABC {
				has.C = 3
			}
			if form == api.FormAI || form == api.FormABI || form == api.FormI {
				has.Imm = 4
			}
			reads(t, line, word(has.Op, has.A, has.B, has.C, has.Imm))
		}
	}
	refuses(t, "word", 1, api.ErrAsmLine)
	reads(t, "word 3, 2, 1, 0", 3, 2, 1, 0)
	refuses(t, "space", 1, api.ErrAsmLine)
	refuses(t, "space 1, 1", 1, api.ErrAsmLine)
	reads(t, "space 1", 0)
}

// P4.1, 2: what a label may be called.
func TestLabels(t *testing.T) {
	for _, name := range []string{"a", "Z", "_", "__", "a1", "_1", "abcdefghijklmnop", "r", "R1", "r16", "r00", "r01", "r1_", "r1x", "rr1", "r015", "NOP", "Word", "nop_", "words", "x0x5", "spaces"} {
		reads(t, name+":")
		reads(t, "nop\n"+name+": word "+name, word(1, 0, 0, 0, 0), 1)
		reads(t, "word "+name+"\n"+name+":", 1)
	}
	bad := []string{"abcdefghijklmnopq", "1", "1a", "0x1", "-", "-a", "a-", "a-b", "-1", "word", "space", strings.Repeat("a", 256+16), strings.Repeat("a", 60000)}
	for n := range 16 {
		bad = append(bad, "r"+strconv.Itoa(n))
	}
	for op := 1; op <= 30; op++ {
		bad = append(bad, isa.Name(op))
	}
	for _, name := range bad {
		refuses(t, name+":", 1, api.ErrAsmName)
		refuses(t, name+": nop", 1, api.ErrAsmName)
		refuses(t, "nop\n\n"+name+": nop\n!", 3, api.ErrAsmName)
	}
}

// P4.1, 2: no two lines define one name, also where nothing lies between them; names that differ in little are two.
func TestLabelsTwice(t *testing.T) {
	refuses(t, "x: nop\nnop\nx: nop", 3, api.ErrAsmName)
	refuses(t, "x: jmp x\n; x:\ny:\nx:", 4, api.ErrAsmName)
	reads(t, "x:\nX:\nxx:\nx_:\nx1:\n;x:")
}

// A label has the place of what is laid down next behind it.
func TestPlacesOfLabels(t *testing.T) {
	reads(t, "a: word a\nb:\nc:\n\nd: space 3\ne: word a, b, c, d, e, f\nf:", 0, 0, 0, 0, 0, 1, 1, 1, 4, 10)
	reads(t, "space 1023\nword end\nend:", append(make([]uint32, 1023), 1024)...)
	reads(t, "a: space 0\nb: word a, b\nspace 0\nc: word c", 0, 0, 2)
}

// P4.1, 3: numbers, as `word` lays them down.
func TestNumbers(t *testing.T) {
	for text, want := range map[string]uint32{
		"0": 0, "-0": 0, "00": 0, "0x0": 0, "-0x0": 0, "7": 7, "007": 7, "010": 10, "089": 89, "-7": 4294967289, "0xff": 255, "0xFF": 255, "0xfF": 255, "0x00ff": 255, "0xabcdef": 11259375, "0xABCDEF": 11259375, "0x10": 16, "-0x10": 4294967280,
		"2147483647": 2147483647, "2147483648": 2147483648, "4294967295": 4294967295, "0xffffffff": 4294967295, "-2147483648": 2147483648, "-0x80000000": 2147483648, "-2147483647": 2147483649, "-1": 4294967295,
		strings.Repeat("0", 5000) + "12": 12, "0x" + strings.Repeat("0", 5000) + "1F": 31, "-" + strings.Repeat("0", 5000) + "1": 4294967295, "0x1e5": 485,
	} {
		reads(t, "word "+text, want)
	}
	for _, text := range []string{
		"-", "--1", "1-", "1-2", "-x", "-r1", "-nop", "0x", "-0x", "0X1", "0x-1", "0x0x1", "00x1", "0xg", "0x_1", "1_000", "0_", "5x", "5r", "1e5", "0b1", "0o7", "1a", "0x1x", "-0X1", "0-", "9_",
		"4294967296", "0x100000000", "-2147483649", "-0x80000001", "-4294967295", "-4294967296", "9223372036854775807", "9223372036854775808", "18446744073709551615", "18446744073709551616", "18446744073709551617", "-9223372036854775808", "-18446744073709551615", "0x10000000000000000", "0xffffffffffffffff", "-0xffffffffffffffff",
		strings.Repeat("9", 60000), "-" + strings.Repeat("9", 60000), "0x" + strings.Repeat("f", 60000),
	} {
		for _, line := range []string{"word " + text, "li r1, " + text, "space " + text, "mov r1, " + text, "jr " + text, "word 1, x, " + text + ", 4294967296"} {
			refuses(t, line, 1, api.ErrAsmNumber)
		}
	}
}

// P4.1, 3: an operand that is neither register nor number is a name, or is none.
func TestOperandsThatAreNone(t *testing.T) {
	for _, piece := range []string{"a-b", "a-", "x--", "r1-", "r-1", "abcdefghijklmnopq", "nop", "add", "hyp", "word", "space"} {
		for _, line := range []string{"jmp " + piece, "li r1, " + piece, "li " + piece + ", 5", "mov r1, " + piece, "word " + piece, "word 1, " + piece, "space " + piece, "jr " + piece} {
			refuses(t, line, 1, api.ErrAsmName)
		}
	}
}

// P4.1, 3: each place wants its kind: a register; a number or a name; a number.
func TestKindsOfOperands(t *testing.T) {
	for op := 1; op <= 30; op++ {
		n := count(isa.Form(op))
		for i := range n {
			operands := strings.Split(operandsOf(isa.Form(op), n), ", ")
			others := []string{"7", "x", "r16", "R7"}
			if operands[i] == "4" {
				others = []string{"r7"}
			}
			for _, other := range others {
				operands[i] = other
				refuses(t, "x: "+isa.Name(op)+" "+strings.Join(operands, ", "), 1, api.ErrAsmLine)
			}
		}
	}
	for _, line := range []string{"word r0", "word 1, r15", "word x, r1", "x: word x, x, r1", "space r1", "space x", "x: space x", "space R1"} {
		refuses(t, line, 1, api.ErrAsmLine)
	}
}

// All registers, at each place.
func TestRegisters(t *testing.T) {
	for n := range 16 {
		r := "r" + strconv.Itoa(n)
		reads(t, "add "+r+", r1, r2", word(5, n, 1, 2, 0))
		reads(t, "add r1, "+r+", r2", word(5, 1, n, 2, 0))
		reads(t, "add r1, r2, "+r, word(5, 1, 2, n, 0))
	}
	for _, r := range []string{"r16", "r00", "r01", "R1", "r", "r015", "r1x", "x1"} {
		refuses(t, "jr "+r, 1, api.ErrAsmLine)
		refuses(t, "jmp "+r, 1, api.ErrAsmLabel)
	}
}

// P4.1, 3: an Imm holds -131072 to 131071, `space` 0 to 1024.
func TestReach(t *testing.T) {
	for op := 1; op <= 30; op++ {
		form := isa.Form(op)
		ahead := ""
		has := api.Ins{Op: op}
		switch form {
		case api.FormAI:
			ahead, has.A = "r9, ", 9
		case api.FormABI:
			ahead, has.A, has.B = "r9, r6, ", 9, 6
		case api.FormI:
		default:
			continue
		}
		for _, imm := range []int{leastImm, leastImm + 1, -1, 0, 1, mostImm - 1, mostImm} {
			reads(t, isa.Name(op)+" "+ahead+strconv.Itoa(imm), word(op, has.A, has.B, 0, imm))
		}
		reads(t, isa.Name(op)+" "+ahead+"-0x20000", word(op, has.A, has.B, 0, leastImm))
		for _, imm := range []int64{leastImm - 1, mostImm + 1, 262143, 262144, -262144, -2147483648, 4294967295, 4294836224} {
			refuses(t, isa.Name(op)+" "+ahead+strconv.FormatInt(imm, 10), 1, api.ErrAsmReach)
		}
	}
	for _, n := range []int{0, 1, 1023, 1024} {
		reads(t, "space "+strconv.Itoa(n), make([]uint32, n)...)
	}
	reads(t, "space -0")
	for _, n := range []string{"-1", "1025", "0x401", "4294967295", "-2147483648", "65536"} {
		refuses(t, "space "+n, 1, api.ErrAsmReach)
	}
}

// P4.1, 4: with one word more than MaxProgram the program is too long, whichever line lays it down.
func TestProgramThatIsTooLong(t *testing.T) {
	full := make([]uint32, mostProgram)
	for _, more := range []string{"nop", "word 0", "space 1", "space 1024", "x: nop", "word x, x\nx:"} {
		refuses(t, "space 1024\n\n"+more, 3, api.ErrAsmLong)
		refuses(t, strings.Repeat("word 0\n", mostProgram)+more, mostProgram+1, api.ErrAsmLong)
	}
	refuses(t, "space 1023\nword 1, 2", 2, api.ErrAsmLong)
	refuses(t, "word 0"+strings.Repeat(",0", mostProgram), 1, api.ErrAsmLong)
	refuses(t, "word 0"+strings.Repeat(",0", 32000), 1, api.ErrAsmLong)
	refuses(t, "nop\nspace 1024", 2, api.ErrAsmLong)
	reads(t, "word 0"+strings.Repeat(",0", mostProgram-1), full...)
	reads(t, "space 1023\nword 0\nspace 0\nx:\n;", full...)
	reads(t, strings.Repeat("space 1\n", mostProgram), full...)
}

// P4.1: of several faults of one line the first in the document's order is told.
func TestOrderWithinALine(t *testing.T) {
	for _, x := range []struct {
		line string
		e    api.Errno
	}{
		{"nop: frob", api.ErrAsmLine},          // the operation ahead of the label
		{"nop: add r1", api.ErrAsmLine},        // the number of operands ahead of the label
		{"nop: li r1, 5x,", api.ErrAsmLine},    // the form ahead of the label
		{"add 5x, a-b", api.ErrAsmLine},        // the number of operands ahead of the operands
		{"li 5x, 5 !", api.ErrAsmLine},         // the form ahead of the operands
		{"nop: li 5x, 200000", api.ErrAsmName}, // the label ahead of the operands
		{"dup: li r1, 5x", api.ErrAsmName},     // a name that stands twice too
		{"nop: space 1024", api.ErrAsmName},    // the label ahead of the length
		{"li 5x, a-b", api.ErrAsmNumber},       // operand by operand
		{"li a-b, 5x", api.ErrAsmName},         // the other way round
		{"li 5, 5x", api.ErrAsmLine},           // a wrong kind ahead of the next operand
		{"word 5x, r1", api.ErrAsmNumber},      // a wrong number ahead of the next operand
		{"word r1, 5x", api.ErrAsmLine},        // the other way round
		{"li nop, 200000", api.ErrAsmName},     // no name ahead of a wrong kind
		{"mov 200000, r1", api.ErrAsmLine},     // a wrong kind ahead of the reach
		{"addi r1, 200000, 200000", api.ErrAsmLine},
		{"addi r1, x, 200000", api.ErrAsmLine},
		{"addi r1, r2, 200000", api.ErrAsmReach},
		{"space a-b", api.ErrAsmName},
		{"space 5x", api.ErrAsmNumber},
		{"space 1025", api.ErrAsmReach},        // the reach ahead of the length
		{"space 1024", api.ErrAsmLong},         // a word is there ahead of it
		{"li r1, 200000", api.ErrAsmReach},     // the reach ahead of a label that is not there
		{"space 4294967296", api.ErrAsmNumber}, // no number ahead of the reach
	} {
		refuses(t, "dup: jmp nowhere\n"+x.line, 2, x.e)
	}
	refuses(t, "space 1024\nli r1, 200000", 2, api.ErrAsmReach)
	refuses(t, "space 1024\nword 5x", 2, api.ErrAsmNumber)
	refuses(t, "space 1024\nnop: nop", 2, api.ErrAsmName)
	refuses(t, "space 1024\nword 1"+strings.Repeat(",1", 2000)+",r1", 2, api.ErrAsmLine)
}

// P4.1: the first line that is wrong is told, whatever is wrong further on.
func TestFirstLineFirst(t *testing.T) {
	wrong := []struct {
		line string
		e    api.Errno
	}{{"!", api.ErrAsmLine}, {"nop:", api.ErrAsmName}, {"word 5x", api.ErrAsmNumber}, {"hyp 200000", api.ErrAsmReach}, {"word 1" + strings.Repeat(",1", mostProgram), api.ErrAsmLong}}
	for _, one := range wrong {
		for _, another := range wrong {
			refuses(t, "jmp away\nnop\n"+one.line+"\n"+another.line, 3, one.e)
		}
	}
}

// P4.2: a name means its label's place; of a branch and of jmp and jal, less the place of the instruction.
func TestPlacesAsOperands(t *testing.T) {
	from := map[string]bool{"beq": true, "bne": true, "blt": true, "bge": true, "bltu": true, "jmp": true, "jal": true}
	for op := 1; op <= 30; op++ {
		form, name := isa.Form(op), isa.Name(op)
		if form != api.FormI && form != api.FormAI && form != api.FormABI {
			continue
		}
		a, b := 0, 0
		operands := ""
		if form != api.FormI {
			a, operands = 9, "r9, "
		}
		if form == api.FormABI {
			b, operands = 6, "r9, r6, "
		}
		for _, to := range []string{"start", "here", "next", "end"} {
			place := map[string]int{"start": 0, "here": 5, "next": 6, "end": 1024}[to]
			want := place
			if from[name] {
				want -= 5
			}
			words := make([]uint32, 1024)
			words[5] = word(op, a, b, 0, want)
			reads(t, "start: space 5\nhere: "+name+" "+operands+to+"\nnext: space 1018\nend:", words...)
		}
	}
}

// P4.2: the first name without a label is told by its line, behind all lines and ahead of the words.
func TestNamesWithoutALabel(t *testing.T) {
	refuses(t, "nop\n\nx: jmp y\njmp z", 3, api.ErrAsmLabel)
	refuses(t, "x: word x, x, Y, x\nword y", 1, api.ErrAsmLabel)
	refuses(t, "x: word x\nx1: word x1, xx", 2, api.ErrAsmLabel)
	refuses(t, "jmp x\nnop\nnop !", 3, api.ErrAsmLine)
	refuses(t, "jmp x\nx:\nx:", 3, api.ErrAsmName)
	refuses(t, "li r1, X\nx:", 1, api.ErrAsmLabel)
	refuses(t, "jmp x ; x:", 1, api.ErrAsmLabel)
	refuses(t, "space 1023\njmp abcdefghijklmnop", 2, api.ErrAsmLabel)
	reads(t, "jmp abcdefghijklmnop\nabcdefghijklmnop:", word(26, 0, 0, 0, 1))
}

// P4.3: the section 'Examples', and each operation.
func TestList(t *testing.T) {
	for want, words := range map[string][]uint32{
		"": {},
		"li r1, 5\naddi r1, r1, -1\nbne r1, r0, -1\nhyp 7\n":        {word(3, 1, 0, 0, 5), word(18, 1, 1, 0, -1), word(22, 1, 0, 0, -1), word(30, 0, 0, 0, 7)},
		"word 0\nword 4294967295\n":                                 {0, 4294967295},
		"nop\njr r15\ncyc r0\nmov r10, r9\n":                        {word(1, 0, 0, 0, 0), word(28, 15, 0, 0, 0), word(29, 0, 0, 0, 0), word(2, 10, 9, 0, 0)},
		"add r1, r2, r3\nsltu r15, r14, r13\n":                      {word(5, 1, 2, 3, 0), word(17, 15, 14, 13, 0)},
		"li r0, -131072\nhi r11, 131071\njal r12, 0\n":              {word(3, 0, 0, 0, leastImm), word(4, 11, 0, 0, mostImm), word(27, 12, 0, 0, 0)},
		"ld r1, r2, -5\nst r3, r4, 5\nbltu r5, r6, 131071\n":        {word(19, 1, 2, 0, -5), word(20, 3, 4, 0, 5), word(25, 5, 6, 0, mostImm)},
		"jmp -131072\nhyp 0\n":                                      {word(26, 0, 0, 0, leastImm), word(30, 0, 0, 0, 0)},
		"word 67108865\nword 1\nword 2080374784\nword 2147483648\n": {word(1, 0, 0, 0, 1), 1, word(31, 0, 0, 0, 0), 2147483648},
	} {
		if got := asm.List(words); got != want {
			t.Errorf("%v: %q, want %q", words, got, want)
		}
	}
	if got := asm.List(nil); got != "" {
		t.Errorf("nil: %q", got)
	}
	for op := 1; op <= 30; op++ {
		name := isa.Name(op)
		if got := asm.List([]uint32{word(op, 0, 0, 0, 0)}); !strings.HasPrefix(got, name) || strings.Count(got, "0") != count(isa.Form(op)) || strings.Count(got, ",") != max(count(isa.Form(op))-1, 0) {
			t.Errorf("%s: %q", name, got)
		}
	}
}

// P4.3: MaxProgram words are listed, more are not.
func TestListThatIsTooLong(t *testing.T) {
	words := slices.Repeat([]uint32{word(18, 15, 15, 0, leastImm)}, 5000)
	if got := asm.List(words[:mostProgram]); got != strings.Repeat("addi r15, r15, -131072\n", mostProgram) {
		t.Errorf("%d bytes", len(got))
	}
	for _, n := range []int{mostProgram + 1, mostProgram + 2, 5000} {
		if got := asm.List(words[:n]); got != "" {
			t.Errorf("of %d words %d bytes", n, len(got))
		}
	}
}

// R5: what is handed in stays, and answers share no memory.
func TestMemoryOfAnswers(t *testing.T) {
	source := "x: word x, 1, 2\njmp x"
	one, _, _ := asm.Assemble(source)
	want := slices.Clone(one)
	for i := range one[:cap(one)] {
		one[:cap(one)][i] = 99
	}
	reads(t, source, want...)
	words := []uint32{0, word(1, 0, 0, 0, 0), 7, 8}
	asm.List(words[:2])
	if !slices.Equal(words, []uint32{0, word(1, 0, 0, 0, 0), 7, 8}) {
		t.Error(words)
	}
}
