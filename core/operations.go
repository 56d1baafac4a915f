package core

import (
	"bulkhead/alu"
	"bulkhead/api"
)

// highShift: an Imm of 18 bits that is shifted so far has the upper bits of a word.
const highShift = 14

// operations tells what each operation does, by its number; each one tells its trap.
func operations() [api.OpEnd]func(*step) int {
	return [api.OpEnd]func(*step) int{
		api.OpNop:  (*step).nothing,
		api.OpMov:  (*step).move,
		api.OpLi:   (*step).low,
		api.OpHi:   (*step).high,
		api.OpAdd:  (*step).reckon,
		api.OpSub:  (*step).reckon,
		api.OpMul:  (*step).reckon,
		api.OpDiv:  (*step).reckon,
		api.OpRem:  (*step).reckon,
		api.OpAnd:  (*step).reckon,
		api.OpOr:   (*step).reckon,
		api.OpXor:  (*step).reckon,
		api.OpShl:  (*step).reckon,
		api.OpShr:  (*step).reckon,
		api.OpSar:  (*step).reckon,
		api.OpSlt:  (*step).reckon,
		api.OpSltu: (*step).reckon,
		api.OpAddi: (*step).addImm,
		api.OpLd:   (*step).load,
		api.OpSt:   (*step).store,
		api.OpBeq:  (*step).branch,
		api.OpBne:  (*step).branch,
		api.OpBlt:  (*step).branch,
		api.OpBge:  (*step).branch,
		api.OpBltu: (*step).branch,
		api.OpJmp:  (*step).jump,
		api.OpJal:  (*step).jumpLink,
		api.OpJr:   (*step).jumpRegister,
		api.OpCyc:  (*step).cycles,
		api.OpHyp:  (*step).call,
	}
}

// a, b, c are the words of the registers that the instruction names, imm is its Imm as a word.
func (s *step) a() uint32 { return s.Regs[s.ins.A] }

func (s *step) b() uint32 { return s.Regs[s.ins.B] }

func (s *step) c() uint32 { return s.Regs[s.ins.C] }

func (s *step) imm() uint32 { return uint32(s.ins.Imm) }

// put ends the operations that make a word for the register A.
func (s *step) put(w uint32) int {
	s.Regs[s.ins.A] = w
	return api.TrapNone
}

// goOn ends the operations that go on at another place than the next one.
func (s *step) goOn(at uint32) int {
	s.PC = at
	return api.TrapNone
}

// away is the place that lies Imm away from the instruction's own.
func (s *step) away() uint32 { return s.act.PC + s.imm() }

func (s *step) nothing() int { return api.TrapNone }

func (s *step) move() int { return s.put(s.b()) }

func (s *step) low() int { return s.put(s.imm()) }

func (s *step) high() int { return s.put(s.imm() << highShift) }

func (s *step) addImm() int { return s.put(s.b() + s.imm()) }

func (s *step) cycles() int { return s.put(s.clock) }

func (s *step) reckon() int {
	w, e := alu.Do(s.ins.Op, s.b(), s.c())
	if e != api.OK {
		return api.TrapDivide
	}
	return s.put(w)
}

func (s *step) load() int {
	x := s.b() + s.imm()
	at, ok := s.reach(x, api.RightRead)
	if !ok {
		return api.TrapLoad
	}
	w, _ := s.m.Read(at)
	s.act.Read, s.act.Addr, s.act.Value = true, x, w
	return s.put(w)
}

func (s *step) store() int {
	at, ok := s.reach(s.b()+s.imm(), api.RightWrite)
	if !ok {
		return api.TrapStore
	}
	s.m.Write(at, s.a())
	return api.TrapNone
}

func (s *step) branch() int {
	if taken, _ := alu.Takes(s.ins.Op, s.a(), s.b()); taken {
		return s.goOn(s.away())
	}
	return api.TrapNone
}

func (s *step) jump() int { return s.goOn(s.away()) }

func (s *step) jumpLink() int {
	s.put(s.act.PC + 1)
	return s.goOn(s.away())
}

func (s *step) jumpRegister() int { return s.goOn(s.a()) }

func (s *step) call() int {
	if s.ins.Imm < api.CallYield || s.ins.Imm >= api.CallEnd {
		return api.TrapCall
	}
	s.act.Call = s.ins.Imm
	return api.TrapNone
}
