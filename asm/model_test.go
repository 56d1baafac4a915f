package asm_test

import (
	"math/big"
	"math/rand/v2"
	"regexp"
	"slices"
	"strings"
	"testing"

	"bulkhead/api"
	"bulkhead/asm"
)

// The document's forms as patterns: the model reads by them, and shares nothing with the program.
var (
	linePattern     = regexp.MustCompile(`^[ \t\r]*(?:([\w-]+)[ \t\r]*:)?[ \t\r]*(?:([\w-]+)(?:[ \t\r]+([\w-]+(?:[ \t\r]*,[ \t\r]*[\w-]+)*))?)?[ \t\r]*(?:;.*)?$`)
	piecePattern    = regexp.MustCompile(`[\w-]+`)
	numberPattern   = regexp.MustCompile(`^-?(?:[0-9]+|0x[0-9a-fA-F]+)$`)
	registerPattern = regexp.MustCompile(`^r(?:[0-9]|1[0-5])$`)
	namePattern     = regexp.MustCompile(`^[a-zA-Z_]\w{0,15}$`)
)

// formed: an operation and the kinds of its operands: r a register, i an Imm, j an Imm reckoned from its own place.
type formed struct {
	op    int
	kinds string
}

// table: the document's table of operations.
var table = makeTable()

func makeTable() map[string]formed {
	t := map[string]formed{
		"nop": {1, ""}, "mov": {2, "rr"}, "li": {3, "ri"}, "hi": {4, "ri"}, "addi": {18, "rri"}, "ld": {19, "rri"}, "st": {20, "rri"}, "jmp": {26, "j"}, "jal": {27, "rj"}, "jr": {28, "r"}, "cyc": {29, "r"}, "hyp": {30, "i"},
	}
	for i, name := range strings.Fields("add sub mul div rem and or xor shl shr sar slt sltu") {
		t[name] = formed{5 + i, "rrr"}
	}
	for i, name := range strings.Fields("beq bne blt bge bltu") {
		t[name] = formed{21 + i, "rrj"}
	}
	return t
}

// isModelName says whether a piece may name a label.
func isModelName(piece string) bool {
	_, operation := table[piece]
	return namePattern.MatchString(piece) && !registerPattern.MatchString(piece) && !operation && piece != "word" && piece != "space"
}

// modelNumber reads a number of any size.
func modelNumber(piece string) (*big.Int, bool) {
	if !numberPattern.MatchString(piece) {
		return nil, false
	}
	base := 10
	if strings.Contains(piece, "x") {
		base = 16
	}
	n, _ := new(big.Int).SetString(strings.Replace(piece, "0x", "", 1), base)
	return n, n.Cmp(big.NewInt(-2147483648)) >= 0 && n.Cmp(big.NewInt(4294967295)) <= 0
}

// kindsOf tells the kinds of a line's operands; false, if there may not be so many.
func kindsOf(op string, n int) (string, bool) {
	switch op {
	case "":
		return "", n == 0
	case "word":
		return strings.Repeat("w", n), n > 0
	case "space":
		return "s", n == 1
	}
	f, ok := table[op]
	return f.kinds, ok && len(f.kinds) == n
}

// modelOperand looks at one operand at a place of a kind, and tells its number (of a name: none).
func modelOperand(piece string, kind rune) (int64, api.Errno) {
	n, number := modelNumber(piece)
	register := registerPattern.MatchString(piece)
	begins := strings.Contains("-0123456789", piece[:1])
	least, most := int64(-131072), int64(131071)
	switch kind {
	case 'w':
		least, most = -1<<31, 1<<32-1
	case 's':
		least, most = 0, 1024
	}
	switch {
	case begins && !number:
		return 0, api.ErrAsmNumber
	case !begins && !register && !isModelName(piece):
		return 0, api.ErrAsmName
	case (kind == 'r') != register, kind == 's' && !number:
		return 0, api.ErrAsmLine
	case register:
		m, _ := new(big.Int).SetString(piece[1:], 10)
		return m.Int64(), api.OK
	case !number:
		return 0, api.OK
	case n.Int64() < least || n.Int64() > most:
		return 0, api.ErrAsmReach
	}
	return n.Int64(), api.OK
}

// model reads a source twice: for the labels and all faults of lines, then for the words.
func model(source string) ([]uint32, int, api.Errno) {
	labels := map[string]int{}
	lines := strings.Split(source, "\n")
	size := 0
	for i, line := range lines {
		m := linePattern.FindStringSubmatch(line)
		if m == nil {
			return nil, i + 1, api.ErrAsmLine
		}
		pieces := piecePattern.FindAllString(m[3], -1)
		kinds, ok := kindsOf(m[2], len(pieces))
		if !ok {
			return nil, i + 1, api.ErrAsmLine
		}
		if _, twice := labels[m[1]]; m[1] != "" && (twice || !isModelName(m[1])) {
			return nil, i + 1, api.ErrAsmName
		}
		labels[m[1]] = size
		more := 1
		if strings.Trim(kinds, "w") == "" && m[2] != "nop" {
			more = len(kinds)
		}
		for j, kind := range kinds {
			n, e := modelOperand(pieces[j], kind)
			if e != api.OK {
				return nil, i + 1, e
			}
			if kind == 's' {
				more = int(n)
			}
		}
		size += more
		if size > 1024 {
			return nil, i + 1, api.ErrAsmLong
		}
	}
	return modelWords(lines, labels)
}

// modelWords makes the words of lines with which nothing is wrong but, it may be, a label that is not there.
func modelWords(lines []string, labels map[string]int) ([]uint32, int, api.Errno) {
	var words []uint32
	for i, line := range lines {
		m := linePattern.FindStringSubmatch(line)
		pieces := piecePattern.FindAllString(m[3], -1)
		kinds, _ := kindsOf(m[2], len(pieces))
		at := len(words)
		w := uint32(table[m[2]].op) << 26
		from := 22
		for j, kind := range kinds {
			n, _ := modelOperand(pieces[j], kind)
			place, ok := labels[pieces[j]]
			if isModelName(pieces[j]) && !ok {
				return nil, i + 1, api.ErrAsmLabel
			}
			if kind == 'j' && ok {
				place -= at
			}
			switch n += int64(place); kind {
			case 's':
				words = append(words, make([]uint32, n)...)
			case 'w':
				words = append(words, uint32(n))
			case 'r':
				w |= uint32(n) << from
				from -= 4
			default:
				w |= uint32(n) & (1<<18 - 1)
			}
		}
		if _, ok := table[m[2]]; ok {
			words = append(words, w)
		}
	}
	return words, 0, api.OK
}

// pick takes one of some texts.
func pick(r *rand.Rand, list ...string) string { return list[r.IntN(len(list))] }

// somePiece makes a piece: mostly a good one of a kind, seldom one that is wrong or near to it.
func somePiece(r *rand.Rand, kind rune, faults int) string {
	if r.IntN(faults) == 0 {
		return pick(r, "r16", "r00", "r1-", "-", "--1", "0x", "0X1", "5x", "4294967296", "-2147483649", "131072", "-131073", "1025", "1024", "-1", "a-b", "nop", "word", "space", "abcdefghijklmnop", "abcdefghijklmnopq", "_", "R1", "x", "r15", "7", "nowhere", "1_0", "-0x80000000")
	}
	name := pick(r, "a", "b", "c", "d", "loop", "end_1")
	switch kind {
	case 'r':
		return "r" + pick(r, "0", "1", "2", "9", "10", "15")
	case 's':
		return pick(r, "0", "1", "2", "0x3", "17", "1024")
	case 'w':
		return pick(r, name, "0", "-1", "0xFFFFffff", "4294967295", "-2147483648", "-0x10", "007")
	}
	return pick(r, name, "0", "-1", "131071", "-131072", "0x1Ffff", "5")
}

// someLine makes a line, one in so many with a fault.
func someLine(r *rand.Rand, faults int) string {
	blank := func() string { return pick(r, "", "", " ", "\t", " \r") }
	line := blank()
	if r.IntN(4) == 0 {
		line += pick(r, "a", "b", "c", "d", "loop", "end_1", "L"+pick(r, "1", "2", "3", "4", "5")) + blank() + ":" + blank()
	} else if r.IntN(faults) == 0 {
		line += pick(r, "nop:", "r1:", "-:", "1:", ":", "a: b:", "abcdefghijklmnopq:", ",", "!", "x,", "x y:")
	}
	names := strings.Fields("nop mov li hi add sub mul div rem and or xor shl shr sar slt sltu addi ld st beq bne blt bge bltu jmp jal jr cyc hyp word word word space space")
	if r.IntN(6) > 0 {
		op := pick(r, names...)
		if r.IntN(faults) == 0 {
			op = pick(r, "frob", "NOP", "Word", "r1", "7")
		}
		kinds, _ := kindsOf(op, 1+r.IntN(3))
		if r.IntN(faults) == 0 {
			kinds = pick(r, "", "r", "rr", "rrr", "rrri", "wwww", "s")
		}
		line += op
		for i, kind := range kinds {
			if i > 0 && r.IntN(faults) > 0 {
				line += blank() + "," + blank()
			} else {
				line += pick(r, " ", "\t", "\r", "  ")
			}
			line += somePiece(r, kind, faults)
		}
	}
	return line + blank() + pick(r, "", "", "", ";", "; a comment: nop, !")
}

// someSource makes a source of lines.
func someSource(r *rand.Rand) string {
	faults := []int{12, 60, 400}[r.IntN(3)]
	lines := make([]string, r.IntN(12))
	for i := range lines {
		lines[i] = someLine(r, faults)
	}
	return strings.Join(lines, "\n")
}

// P4.1, P4.2: sources without a plan are read, or refused, as the model does it; each outcome comes up.
func TestAgainstModel(t *testing.T) {
	r := rand.New(rand.NewPCG(4, 1))
	seen := map[api.Errno]int{}
	for range 60000 {
		source := someSource(r)
		words, line, e := model(source)
		got, gotLine, gotE := asm.Assemble(source)
		if gotE != e || gotLine != line || !slices.Equal(got, words) {
			t.Fatalf("%q: %v, line %d, error %d; want %v, %d, %d", source, got, gotLine, gotE, words, line, e)
		}
		seen[e]++
	}
	for _, e := range []api.Errno{api.OK, api.ErrAsmLine, api.ErrAsmName, api.ErrAsmNumber, api.ErrAsmLabel, api.ErrAsmReach, api.ErrAsmLong} {
		if seen[e] < 100 {
			t.Errorf("error %d came up %d times alone", e, seen[e])
		}
	}
}

// R1: no bytes make Assemble panic, and the model says the same of them.
func TestBytesWithoutAPlan(t *testing.T) {
	const bytes = "\n\n;:,, \t\r-_0019xrnopjmw!\x80\xff"
	r := rand.New(rand.NewPCG(4, 2))
	for range 60000 {
		source := make([]byte, r.IntN(12))
		for i := range source {
			source[i] = bytes[r.IntN(len(bytes))]
		}
		words, line, e := model(string(source))
		got, gotLine, gotE := asm.Assemble(string(source))
		if gotE != e || gotLine != line || !slices.Equal(got, words) {
			t.Fatalf("%q: %v, line %d, error %d; want %v, %d, %d", source, got, gotLine, gotE, words, line, e)
		}
	}
}

// someWord makes a word: an instruction, one with a bit too many, or any.
func someWord(r *rand.Rand) uint32 {
	op := uint32(r.IntN(32))
	switch r.IntN(4) {
	case 0:
		return r.Uint32()
	case 1:
		return op<<26 | 1<<r.IntN(26)
	case 2:
		return op<<26 | r.Uint32()&(1<<26-1<<14)
	}
	return op<<26 | r.Uint32()&(1<<26-1)
}

// P4.4: what List writes, Assemble reads as the same words; so List of what Assemble tells reads as that.
func TestThereAndBack(t *testing.T) {
	r := rand.New(rand.NewPCG(4, 3))
	for n := range 400 {
		words := make([]uint32, r.IntN(50))
		if n%40 == 0 {
			words = make([]uint32, mostProgram)
		}
		for i := range words {
			words[i] = someWord(r)
		}
		text := asm.List(words)
		reads(t, text, words...)
		if strings.Count(text, "\n") != len(words) {
			t.Errorf("%v: %q", words, text)
		}
	}
	for range 3000 {
		words, _, e := asm.Assemble(someSource(r))
		if e == api.OK {
			reads(t, asm.List(words), words...)
		}
	}
}

// P4.5: with lines of blanks and comments between its lines a source means the same, but for the numbers of the lines.
func TestLinesBetween(t *testing.T) {
	r := rand.New(rand.NewPCG(4, 4))
	for range 20000 {
		source := someSource(r)
		words, line, e := asm.Assemble(source)
		var more []string
		moved := []int{0} // the numbers that the lines have then
		for _, text := range strings.Split(source, "\n") {
			for range r.IntN(3) {
				more = append(more, pick(r, "", " ", "\t \r", ";", " ; x: nop", "\t;!\xff:,"))
			}
			more = append(more, text)
			moved = append(moved, len(more))
		}
		wide := strings.Join(more, "\n")
		got, gotLine, gotE := asm.Assemble(wide)
		if gotE != e || gotLine != moved[line] || !slices.Equal(got, words) {
			t.Fatalf("%q: %v, line %d, error %d; %q: %v, %d, %d", source, words, line, e, wide, got, gotLine, gotE)
		}
	}
}
