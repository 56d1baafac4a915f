package core_test

import (
	"fmt"
	"testing"

	"bulkhead/api"
	"bulkhead/asm"
	"bulkhead/core"
	"bulkhead/isa"
	"bulkhead/mem"
	"bulkhead/page"
)

// The costs as the document prints them.
const (
	hit  = 1
	miss = 7
	walk = 6
	trap = 10
	hyp  = 24
	most = 37
)

// The frames of the memory that most tests work on: a root, a table of the pages 0 to 15, one of the pages 240 to 255, and the pages' own.
const (
	root      = 0
	lowTable  = 1
	highTable = 2
	frames    = 11
)

// The pages that are there, by their rights.
var regions = []api.Region{
	{Page: 0, Pages: 1, Frame: 3, Rights: 7},
	{Page: 1, Pages: 1, Frame: 4, Rights: 1},
	{Page: 2, Pages: 1, Frame: 5, Rights: 2},
	{Page: 3, Pages: 1, Frame: 6, Rights: 4},
	{Page: 4, Pages: 1, Frame: 7, Rights: 3},
	{Page: 5, Pages: 1, Frame: 8, Rights: 0},
	{Page: 14, Pages: 1, Frame: 9, Rights: 7},
	{Page: 255, Pages: 1, Frame: 10, Rights: 7},
}

// space makes that memory; two entries more name frames which it does not have: that of page 6, and the root's of the pages 32 to 47.
func space(t *testing.T) *mem.Memory {
	t.Helper()
	m, e := mem.New(frames)
	if e != api.OK {
		t.Fatalf("New: error %d", e)
	}
	if e := page.Build(m, root, []int{lowTable, highTable}, regions); e != api.OK {
		t.Fatalf("Build: error %d", e)
	}
	write(t, m, lowTable*16+6, 0x80000007|frames<<3)
	write(t, m, root*16+2, 0x80000000|frames<<3)
	return m
}

// write writes a word of the memory.
func write(t *testing.T, m *mem.Memory, at int, w uint32) {
	t.Helper()
	if e := m.Write(at, w); e != api.OK {
		t.Fatalf("Write(%d): error %d", at, e)
	}
}

// read reads a word of the memory.
func read(t *testing.T, m *mem.Memory, at int) uint32 {
	t.Helper()
	w, e := m.Read(at)
	if e != api.OK {
		t.Fatalf("Read(%d): error %d", at, e)
	}
	return w
}

// place tells where a word of the space lies in that memory, by the regions alone.
func place(t *testing.T, at uint32) int {
	t.Helper()
	for _, r := range regions {
		if int(at)/16 == r.Page {
			return r.Frame*16 + int(at)%16
		}
	}
	t.Fatalf("no region has the word %d", at)
	return 0
}

// laid lays a program down from a word of the space on.
func laid(t *testing.T, m *mem.Memory, at uint32, program string) []uint32 {
	t.Helper()
	words, line, e := asm.Assemble(program)
	if e != api.OK {
		t.Fatalf("Assemble %q: line %d, error %d", program, line, e)
	}
	for i, w := range words {
		write(t, m, place(t, at+uint32(i)), w)
	}
	return words
}

// steps does a step that must go well.
func steps(t *testing.T, c *core.Core, m *mem.Memory, root int, clock uint32) api.Act {
	t.Helper()
	act, e := c.Step(m, root, clock)
	if e != api.OK {
		t.Fatalf("Step: error %d", e)
	}
	return act
}

// acts does a step and asks for what it tells.
func acts(t *testing.T, c *core.Core, m *mem.Memory, want api.Act) {
	t.Helper()
	if act := steps(t, c, m, root, 900); act != want {
		t.Errorf("Step: %+v, want %+v", act, want)
	}
}

// stands asks for a core's context.
func stands(t *testing.T, c *core.Core, want api.Context) {
	t.Helper()
	if got := c.Context(); got != want {
		t.Errorf("Context: %v, want %v", got, want)
	}
}

// holds asks for what a core holds beside its context: "[[8] [] [] []] [{0 2 7}]".
func holds(t *testing.T, c *core.Core, want string) {
	t.Helper()
	if got := fmt.Sprint(c.Held().Lines, c.Held().Leaves); got != want {
		t.Errorf("Held: %s, want %s", got, want)
	}
}

const nothingHeld = "[[] [] [] []] []"

// small is the chapter's memory of 4 frames.
func small(t *testing.T) *mem.Memory {
	t.Helper()
	m, e := mem.New(4)
	if e != api.OK {
		t.Fatalf("New: error %d", e)
	}
	for at, w := range map[int]uint32{
		0:  0x80000008,
		16: 0x80000017, 17: 0x80000019,
		32: 0x0C400005, 33: 0x4C800010, 34: 0x50400010, 35: 0x78000006,
		48: 77,
	} {
		write(t, m, at, w)
	}
	return m
}

// The chapter's examples, row by row.
func TestExamples(t *testing.T) {
	m, c := small(t), core.New()
	before := m.Clone()
	var x api.Context

	acts(t, c, m, api.Act{Cost: 14, Call: -1, PC: 0, Word: 0x0C400005})
	x.Regs[1], x.PC = 5, 1
	stands(t, c, x)

	acts(t, c, m, api.Act{Cost: 15, Call: -1, PC: 1, Word: 0x4C800010, Read: true, Addr: 16, Value: 77})
	x.Regs[2], x.PC = 77, 2
	stands(t, c, x)

	acts(t, c, m, api.Act{Cost: 11, Trap: 4, Call: -1, PC: 2, Word: 0x50400010})
	stands(t, c, x)

	x.PC = 3
	c.Set(x)
	acts(t, c, m, api.Act{Cost: 25, Call: 6, PC: 3, Word: 0x78000006})
	x.PC = 4
	stands(t, c, x)
	acts(t, c, m, api.Act{Cost: 17, Trap: 2, Call: -1, PC: 4})
	stands(t, c, x)

	x.PC = 32
	c.Set(x)
	acts(t, c, m, api.Act{Cost: 16, Trap: 1, Call: -1, PC: 32})
	stands(t, c, x)

	x.PC = 4096
	c.Set(x)
	acts(t, c, m, api.Act{Cost: 10, Trap: 1, Call: -1, PC: 4096})
	stands(t, c, x)

	held := "[[12 8] [9] [] []] [{1 3 1} {0 2 7}]"
	holds(t, c, held)
	for at := range m.Differ(before) {
		t.Errorf("the word %d has changed", at)
	}
	for _, r := range []int{4, -1} {
		if act, e := c.Step(m, r, 0); act != (api.Act{}) || e != api.ErrPageRoot {
			t.Errorf("Step with the root %d: %+v, error %d", r, act, e)
		}
	}
	if e := c.Restore(api.Held{Leaves: []api.Leaf{{Page: 0, Frame: 2, Rights: 7}, {Page: 0, Frame: 3, Rights: 1}}}); e != api.ErrCoreState {
		t.Errorf("Restore: error %d", e)
	}
	holds(t, c, held)
	stands(t, c, x)
}

// The errors' numbers, the traps and costs are the document's.
func TestNumbers(t *testing.T) {
	if api.ErrNil != 3 || api.ErrPageRoot != 91 || api.ErrCoreState != 100 {
		t.Error("the errors' numbers")
	}
	if api.CostHit != hit || api.CostMiss != miss || api.CostWalk != walk || api.CostTrap != trap || api.CostCall != hyp || api.MostCost != most {
		t.Error("the costs")
	}
	if api.TrapNone != 0 || api.TrapFetch != 1 || api.TrapIllegal != 2 || api.TrapLoad != 3 || api.TrapStore != 4 || api.TrapDivide != 5 || api.TrapCall != 6 {
		t.Error("the traps")
	}
}

// anyContext tells a context no two words of which are alike.
func anyContext() api.Context {
	x := api.Context{PC: 3}
	for r := range x.Regs {
		x.Regs[r] = 0xFFFFFF00 + uint32(r)*7
	}
	return x
}

// P10.1: a new core has a context of zeros and holds nothing, and is another one each time.
func TestNew(t *testing.T) {
	c, other := core.New(), core.New()
	if c == nil || other == nil {
		t.Fatal("New: nil")
	}
	stands(t, c, api.Context{})
	holds(t, c, nothingHeld)
	m := space(t)
	laid(t, m, 0, "li r3, 9")
	steps(t, c, m, root, 0)
	stands(t, other, api.Context{})
	holds(t, other, nothingHeld)
	c.Set(anyContext())
	stands(t, other, api.Context{})
}

// P10.1: Set changes the context, each word of it, and nothing else; Flush all the rest.
func TestSetFlush(t *testing.T) {
	m, c := space(t), core.New()
	laid(t, m, 0, "ld r1, r0, 64\nld r1, r0, 20")
	steps(t, c, m, root, 0)
	steps(t, c, m, root, 0)
	held := "[[28 12] [17] [] []] [{4 7 3} {0 3 7} {1 4 1}]"
	holds(t, c, held)

	c.Set(anyContext())
	stands(t, c, anyContext())
	holds(t, c, held)

	c.Flush()
	stands(t, c, anyContext())
	holds(t, c, nothingHeld)
	c.Flush()
	holds(t, c, nothingHeld)

	c.Set(api.Context{})
	acts(t, c, m, api.Act{Cost: walk + miss + walk + miss + 1, Call: -1, Word: 0x4C400040, Read: true, Addr: 64})
}

// P10.1, R5: what Context tells and what Set was given are values of their own.
func TestContextIsACopy(t *testing.T) {
	c := core.New()
	x := anyContext()
	c.Set(x)
	x.Regs[4], x.PC = 1, 2
	stands(t, c, anyContext())
	got := c.Context()
	got.Regs[5] = 3
	stands(t, c, anyContext())
}

// P10.2, P10.4: a nil core; its error is ahead of all others.
func TestNil(t *testing.T) {
	var c *core.Core
	m := space(t)
	before := m.Clone()
	for _, r := range []int{0, 3, -1, frames} {
		for _, memory := range []*mem.Memory{m, nil} {
			if act, e := c.Step(memory, r, 5); act != (api.Act{}) || e != api.ErrNil {
				t.Errorf("Step with the root %d: %+v, error %d", r, act, e)
			}
		}
	}
	c.Set(anyContext())
	c.Flush()
	stands(t, c, api.Context{})
	if h := c.Held(); h.Context != (api.Context{}) || len(h.Lines) != 0 || len(h.Leaves) != 0 {
		t.Errorf("Held: %v", h)
	}
	for _, h := range []api.Held{{}, {Lines: [][]int{{1}}}, {Leaves: []api.Leaf{{Page: -1}}}} {
		if e := c.Restore(h); e != api.ErrNil {
			t.Errorf("Restore: error %d", e)
		}
	}
	for at := range m.Differ(before) {
		t.Errorf("the word %d has changed", at)
	}
}

// P10.2: a nil memory, and a root that is none of the memory's frames: nothing is done.
func TestStepRefused(t *testing.T) {
	m, c := space(t), core.New()
	laid(t, m, 0, "st r0, r0, 0\nst r0, r0, 64")
	steps(t, c, m, root, 0)
	x, held, before := c.Context(), fmt.Sprint(c.Held()), m.Clone()
	for _, r := range []int{-1, -16, frames, frames + 1, 1024, 1 << 32, 1<<63 - 1, -1 << 63} {
		if act, e := c.Step(m, r, 5); act != (api.Act{}) || e != api.ErrPageRoot {
			t.Errorf("Step with the root %d: %+v, error %d", r, act, e)
		}
		if act, e := c.Step(nil, r, 5); act != (api.Act{}) || e != api.ErrNil {
			t.Errorf("Step of no memory with the root %d: %+v, error %d", r, act, e)
		}
	}
	if act, e := c.Step(nil, root, 5); act != (api.Act{}) || e != api.ErrNil {
		t.Errorf("Step of no memory: %+v, error %d", act, e)
	}
	stands(t, c, x)
	if got := fmt.Sprint(c.Held()); got != held {
		t.Errorf("Held: %s, want %s", got, held)
	}
	for at := range m.Differ(before) {
		t.Errorf("the word %d has changed", at)
	}
}

// P10.2: the tables are those of the root that is told, any frame of the memory, the last one too.
func TestRoots(t *testing.T) {
	m, e := mem.New(8)
	if e != api.OK {
		t.Fatalf("New: error %d", e)
	}
	five, _ := isa.Encode(api.Ins{Op: api.OpLi, A: 1, Imm: 5})
	six, _ := isa.Encode(api.Ins{Op: api.OpLi, A: 2, Imm: 6})
	for at, w := range map[int]uint32{
		0 * 16: 0x80000000 | 1<<3, 1 * 16: 0x80000007 | 5<<3, 5 * 16: five,
		7 * 16: 0x80000000 | 2<<3, 2 * 16: 0x80000004 | 6<<3, 6 * 16: six,
	} {
		write(t, m, at, w)
	}
	first, last := core.New(), core.New()
	if act := steps(t, first, m, 0, 0); act != (api.Act{Cost: 14, Call: -1, Word: five}) {
		t.Errorf("by the root 0: %+v", act)
	}
	if act := steps(t, last, m, 7, 0); act != (api.Act{Cost: 14, Call: -1, Word: six}) {
		t.Errorf("by the root 7: %+v", act)
	}
	holds(t, first, "[[20] [] [] []] [{0 5 7}]")
	holds(t, last, "[[24] [] [] []] [{0 6 4}]")
	if act := steps(t, core.New(), m, 3, 0); act != (api.Act{Cost: walk + trap, Trap: 1, Call: -1}) {
		t.Errorf("by the root 3: %+v", act)
	}
}
