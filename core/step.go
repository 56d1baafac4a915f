package core

import (
	"bulkhead/api"
	"bulkhead/isa"
	"bulkhead/mem"
	"bulkhead/page"
)

// noCall stands in an act for the call of an instruction that is none.
const noCall = -1

// step is an instruction under way.
type step struct {
	context // as it will be, if nothing traps: the core keeps its own till then
	core    *Core
	m       *mem.Memory
	root    int
	clock   uint32
	ins     api.Ins
	act     api.Act
}

// carryOut does all of an instruction, and tells its trap.
func (s *step) carryOut() int {
	at, ok := s.reach(s.PC, api.RightRun)
	if !ok {
		return api.TrapFetch
	}
	s.act.Word, _ = s.m.Read(at)
	ins, e := isa.Decode(s.act.Word)
	if e != api.OK {
		return api.TrapIllegal
	}
	s.ins = ins
	s.PC++ // an operation that goes on elsewhere says so itself
	if trap := operations()[ins.Op](s); trap != api.TrapNone {
		return trap
	}
	s.act.Cost += isa.Cost(ins.Op)
	return api.TrapNone
}

// reach tells where in the memory a word of the space lies, and pays for the way there; false: it may not be reached with that right.
func (s *step) reach(at uint32, right int) (int, bool) {
	if at >= api.Space {
		return 0, false
	}
	leaf, ok := s.leafOf(int(at / api.FrameWords))
	// A leaf that the core was made to hold may be of a greater memory.
	if !ok || leaf.Frame >= s.m.Frames() || leaf.Rights&right == 0 {
		return 0, false
	}
	place := leaf.Frame*api.FrameWords + int(at%api.FrameWords)
	cost, _ := s.core.lines.Touch(place)
	s.act.Cost += cost
	return place, true
}

// leafOf tells a page's leaf: the one that the core knows, or else that of the tables, which it knows from then on.
func (s *step) leafOf(number int) (api.Leaf, bool) {
	if leaf, known := s.core.leaves.Find(number); known {
		return leaf, true
	}
	s.act.Cost += api.CostWalk
	leaf, e := page.Walk(s.m, s.root, number)
	if e != api.OK {
		return api.Leaf{}, false
	}
	s.core.leaves.Put(leaf)
	return leaf, true
}
