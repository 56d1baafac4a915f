package asm

import (
	"strings"

	"bulkhead/api"
	"bulkhead/isa"
)

// program: what the lines have laid down so far, the place of each label, the names that wait for a label, the number of the line that is being looked at.
type program struct {
	words  []uint32
	labels map[string]int
	wants  []want
	line   int
}

// want: a name that stands as an operand: in which line, for which word, of which instruction (of none: of a bare word).
type want struct {
	name     string
	line, at int
	ins      api.Ins
}

// read goes through the lines, and ends at one with which the program is too long; what is wrong deeper inside a line gives up there.
func (p *program) read(source string) api.Errno {
	e := api.OK
lines:
	for _, text := range strings.Split(source, "\n") {
		p.line++
		s := statementOf(partsOf(text))
		if s.label != "" {
			p.define(s.label)
		}
		for laid := p.wordsOf(s); ; laid = laid[1:] {
			switch {
			case len(laid) == 0: // at once, if the line is empty
				continue lines
			case len(p.words) == api.MaxProgram:
				e = api.ErrAsmLong
				break lines
			}
			p.words = append(p.words, laid[0])
		}
	}
	return e
}

// define gives a label its place: that of what is laid down next.
func (p *program) define(label string) {
	if _, twice := p.labels[label]; twice || !isName(label) {
		giveUp(api.ErrAsmName)
	}
	p.labels[label] = len(p.words)
}

// wordsOf makes the words of a statement; those that want a label are not whole yet.
func (p *program) wordsOf(s statement) []uint32 {
	switch s.op {
	case 0:
		return nil
	case opWord:
		return p.bareWords(s.operands)
	case opSpace:
		return make([]uint32, within(operandOf(s.operands[0]).count(), 0, api.MaxProgram))
	}
	return []uint32{p.instruction(s)}
}

// bareWords makes the words of values.
func (p *program) bareWords(pieces []string) []uint32 {
	words := make([]uint32, len(pieces))
	for i, piece := range pieces {
		o := operandOf(piece)
		words[i] = uint32(o.value())
		p.want(o.name, i, api.Ins{})
	}
	return words
}

// instruction makes the word of an instruction.
func (p *program) instruction(s statement) uint32 {
	ins := api.Ins{Op: s.op}
	name := ""
	for i, letter := range letters[isa.Form(s.op)] {
		o := operandOf(s.operands[i])
		if letter == letterImm {
			ins.Imm, name = int(within(o.value(), leastImm, mostImm)), o.name
		} else {
			*part(&ins, letter) = o.register()
		}
	}
	p.want(name, 0, ins)
	return wordOf(ins)
}

// wordOf tells the word of an instruction whose operands have been looked at: it has one.
func wordOf(ins api.Ins) uint32 {
	w, _ := isa.Encode(ins)
	return w
}

// want keeps a name, if there is one, for when all labels are known; its word is the i-th that the line lays down.
func (p *program) want(name string, i int, ins api.Ins) {
	if name != "" {
		p.wants = append(p.wants, want{name: name, line: p.line, at: len(p.words) + i, ins: ins})
	}
}

// resolve puts the places of the labels into the words that want them.
func (p *program) resolve() {
	for _, w := range p.wants {
		p.line = w.line
		place, ok := p.labels[w.name]
		if !ok {
			giveUp(api.ErrAsmLabel)
		}
		p.words[w.at] = w.word(place)
	}
}

// word tells the word that wants a name, with the place of the name's label.
func (w want) word(place int) uint32 {
	if w.ins.Op == 0 {
		return uint32(place)
	}
	w.ins.Imm = place
	if goesOn(w.ins.Op) {
		w.ins.Imm -= w.at
	}
	return wordOf(w.ins)
}
