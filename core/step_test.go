package core_test

import (
	"testing"

	"bulkhead/api"
	"bulkhead/core"
	"bulkhead/isa"
	"bulkhead/mem"
)

const all = 0xFFFFFFFF

// registers makes a context: at the place 3 of the space, registers r1, r2 and so on as given.
func registers(w ...uint32) api.Context {
	x := api.Context{PC: 3}
	copy(x.Regs[1:], w)
	return x
}

// P10.2: what each operation makes of the registers, and what it costs, by the document's table.
func TestOperations(t *testing.T) {
	for _, row := range []struct {
		program string
		given   api.Context
		cost    int
		reg     int
		word    uint32
	}{
		{"mov r1, r2", registers(1, 9), 1, 1, 9},
		{"mov r15, r15", registers(1, 9), 1, 15, 0},
		{"li r1, 131071", registers(7), 1, 1, 131071},
		{"li r4, -131072", registers(7), 1, 4, 0xFFFE0000},
		{"li r0, -1", registers(), 1, 0, all},
		{"hi r1, 1", registers(7), 1, 1, 0x4000},
		{"hi r1, -1", registers(7), 1, 1, 0xFFFFC000},
		{"hi r1, 131071", registers(7), 1, 1, 0x7FFFC000},
		{"hi r1, -131072", registers(7), 1, 1, 0x80000000},
		{"add r1, r2, r3", registers(1, all, 3), 1, 1, 2},
		{"sub r3, r1, r2", registers(3, 5, 7), 1, 3, 0xFFFFFFFE},
		{"mul r1, r1, r2", registers(0x10001, 0x10001), 3, 1, 0x20001},
		{"div r4, r1, r2", registers(0xFFFFFFF9, 2), 8, 4, 0xFFFFFFFD},
		{"div r4, r1, r2", registers(0x80000000, all), 8, 4, 0x80000000},
		{"rem r4, r1, r2", registers(0xFFFFFFF9, 2), 8, 4, all},
		{"rem r4, r1, r2", registers(0x80000000, all), 8, 4, 0},
		{"and r4, r1, r2", registers(12, 10), 1, 4, 8},
		{"or r4, r1, r2", registers(12, 10), 1, 4, 14},
		{"xor r4, r1, r2", registers(12, 10), 1, 4, 6},
		{"shl r4, r1, r2", registers(3, 33), 1, 4, 6},
		{"shr r4, r1, r2", registers(0x80000000, 31), 1, 4, 1},
		{"sar r4, r1, r2", registers(0x80000000, 31), 1, 4, all},
		{"slt r4, r1, r2", registers(all, 0), 1, 4, 1},
		{"sltu r4, r1, r2", registers(all, 0), 1, 4, 0},
		{"sltu r4, r2, r1", registers(all, 0), 1, 4, 1},
		{"addi r1, r2, -5", registers(1, 3), 1, 1, 0xFFFFFFFE},
		{"addi r2, r2, 131071", registers(1, all), 1, 2, 131070},
		{"cyc r6", registers(), 1, 6, 900},
		{"nop", registers(1, 2, 3), 1, 1, 1},
	} {
		m, c := space(t), core.New()
		word := laid(t, m, 3, row.program)[0]
		before := m.Clone()
		c.Set(row.given)
		acts(t, c, m, api.Act{Cost: walk + miss + row.cost, Call: -1, PC: 3, Word: word})
		want := row.given
		want.Regs[row.reg], want.PC = row.word, 4
		if c.Context() != want {
			t.Errorf("%s: %v, want %v", row.program, c.Context(), want)
		}
		unchanged(t, m, before)
	}
}

// unchanged asks that no word has changed but those.
func unchanged(t *testing.T, m, before *mem.Memory, but ...int) {
	t.Helper()
	for at := range m.Differ(before) {
		if len(but) == 0 || but[0] != at {
			t.Errorf("the word %d has changed", at)
		}
	}
}

// P10.2: where branches and jumps go on, modulo 2^32 and reckoned from their own place.
func TestGoingOn(t *testing.T) {
	for _, row := range []struct {
		program string
		given   api.Context
		next    uint32
	}{
		{"nop", registers(), 4},
		{"beq r1, r2, 5", registers(6, 6), 8},
		{"beq r1, r2, 5", registers(6, 7), 4},
		{"bne r1, r2, -3", registers(6, 7), 0},
		{"bne r1, r2, -3", registers(6, 6), 4},
		{"blt r1, r2, 131071", registers(all, 0), 131074},
		{"blt r1, r2, 131071", registers(0, all), 4},
		{"blt r1, r2, 131071", registers(0, 0), 4},
		{"bge r1, r2, -131072", registers(0, all), 0xFFFE0003},
		{"bge r1, r2, -131072", registers(5, 5), 0xFFFE0003},
		{"bge r1, r2, -131072", registers(all, 0), 4},
		{"bltu r1, r2, -4", registers(0, all), all},
		{"bltu r1, r2, -4", registers(all, 0), 4},
		{"beq r1, r1, 0", registers(8), 3},
		{"jmp 0", registers(), 3},
		{"jmp -4", registers(), all},
		{"jmp 131071", registers(), 131074},
		{"jr r1", registers(0), 0},
		{"jr r1", registers(4096), 4096},
		{"jr r2", registers(0, all), all},
	} {
		m, c := space(t), core.New()
		word := laid(t, m, 3, row.program)[0]
		before := m.Clone()
		c.Set(row.given)
		acts(t, c, m, api.Act{Cost: walk + miss + 1, Call: -1, PC: 3, Word: word})
		want := row.given
		want.PC = row.next
		if c.Context() != want {
			t.Errorf("%s: %v, want %v", row.program, c.Context(), want)
		}
		unchanged(t, m, before)
	}
}

// P10.2: jal lays the place behind it down, and goes on by Imm.
func TestJal(t *testing.T) {
	for imm, next := range map[string]uint32{"7": 10, "-4": all, "0": 3} {
		m, c := space(t), core.New()
		word := laid(t, m, 3, "jal r5, "+imm)[0]
		c.Set(registers(1, 2))
		acts(t, c, m, api.Act{Cost: walk + miss + 1, Call: -1, PC: 3, Word: word})
		want := registers(1, 2, 0, 0, 4)
		want.PC = next
		stands(t, c, want)
	}
}

// P10.2: cyc tells the clock as it is given, whichever it is.
func TestCyc(t *testing.T) {
	m, c := space(t), core.New()
	laid(t, m, 0, "cyc r9")
	for _, clock := range []uint32{0, 1, 900, 1 << 31, all} {
		c.Set(api.Context{})
		steps(t, c, m, root, clock)
		if got := c.Context().Regs[9]; got != clock {
			t.Errorf("cyc: %d, want %d", got, clock)
		}
	}
}

// P10.2: an ld tells which word it has read, and lays it into A alone.
func TestLoad(t *testing.T) {
	for _, row := range []struct {
		program string
		given   api.Context
		x       uint32
		reg     int
		cost    int
	}{
		{"ld r1, r2, 0", registers(1, 20), 20, 1, walk + miss + 1},
		{"ld r2, r2, -1", registers(1, 17), 16, 2, walk + miss + 1},
		{"ld r2, r1, 5", registers(0xFFFFFFFE), 3, 2, hit + 1},  // its own word
		{"ld r2, r1, 6", registers(0xFFFFFFFE), 4, 2, miss + 1}, // its own page
		{"ld r2, r0, 64", registers(), 64, 2, walk + miss + 1},
		{"ld r2, r0, 4095", registers(), 4095, 2, walk + miss + 1},
		{"ld r2, r1, -131072", registers(131072 + 239), 239, 2, walk + miss + 1},
	} {
		m, c := space(t), core.New()
		word := laid(t, m, 3, row.program)[0]
		value := uint32(0xABCD0000)
		if row.x == 3 {
			value = word
		} else {
			write(t, m, place(t, row.x), value)
		}
		before := m.Clone()
		c.Set(row.given)
		acts(t, c, m, api.Act{Cost: walk + miss + row.cost, Call: -1, PC: 3, Word: word, Read: true, Addr: row.x, Value: value})
		want := row.given
		want.Regs[row.reg], want.PC = value, 4
		stands(t, c, want)
		unchanged(t, m, before)
	}
}

// P10.2: an ld of a 0 tells that it has read all the same.
func TestLoadZero(t *testing.T) {
	m, c := space(t), core.New()
	word := laid(t, m, 3, "ld r1, r0, 0")[0]
	c.Set(registers(5))
	acts(t, c, m, api.Act{Cost: walk + miss + hit + 1, Call: -1, PC: 3, Word: word, Read: true})
	x := registers(0)
	x.PC = 4
	stands(t, c, x)
	holds(t, c, "[[12] [] [] []] [{0 3 7}]")
}

// P10.2: an st writes the word of A at x's place, and that one alone; it tells of no reading.
func TestStore(t *testing.T) {
	for _, row := range []struct {
		program string
		given   api.Context
		x       uint32
		cost    int
	}{
		{"st r1, r2, 0", registers(77, 32), 32, walk + miss + 1},
		{"st r2, r2, -1", registers(77, 48), 47, walk + miss + 1},
		{"st r1, r2, 5", registers(77, 0xFFFFFFFE), 3, hit + 1}, // over itself
		{"st r1, r0, 79", registers(77), 79, walk + miss + 1},
		{"st r1, r0, 4080", registers(all), 4080, walk + miss + 1},
	} {
		m, c := space(t), core.New()
		word := laid(t, m, 3, row.program)[0]
		before := m.Clone()
		c.Set(row.given)
		acts(t, c, m, api.Act{Cost: walk + miss + row.cost, Call: -1, PC: 3, Word: word})
		want := row.given
		want.PC = 4
		stands(t, c, want)
		stored := row.given.Regs[1]
		if row.program[:5] == "st r2" {
			stored = row.given.Regs[2]
		}
		if got := read(t, m, place(t, row.x)); got != stored {
			t.Errorf("%s: the word is %d, want %d", row.program, got, stored)
		}
		unchanged(t, m, before, place(t, row.x))
	}
}

// P10.2: the calls, each with its number; all other numbers trap.
func TestCall(t *testing.T) {
	for imm := -9; imm <= 16; imm++ {
		called(t, imm)
	}
	for _, imm := range []int{-131072, 131071, 1 << 16, 256, 1 << 15} {
		called(t, imm)
	}
}

func called(t *testing.T, imm int) {
	t.Helper()
	m, c := space(t), core.New()
	word, e := isa.Encode(api.Ins{Op: api.OpHyp, Imm: imm})
	if e != api.OK {
		t.Fatalf("Encode: error %d", e)
	}
	write(t, m, place(t, 3), word)
	c.Set(registers(5, 6))
	want, x := api.Act{Cost: walk + miss + trap, Trap: 6, Call: -1, PC: 3, Word: word}, registers(5, 6)
	if imm >= 0 && imm <= 7 {
		want, x.PC = api.Act{Cost: walk + miss + hyp, Call: imm, PC: 3, Word: word}, 4
	}
	acts(t, c, m, want)
	stands(t, c, x)
}

// traps does a step that must trap: context and memory are as they were.
func traps(t *testing.T, c *core.Core, m *mem.Memory, want api.Act) {
	t.Helper()
	x, before := c.Context(), m.Clone()
	acts(t, c, m, want)
	stands(t, c, x)
	unchanged(t, m, before)
}

// P10.2: a fetch traps where there is no such word, no such page, no such frame or no right to run.
func TestFetchTraps(t *testing.T) {
	for _, row := range []struct {
		pc    uint32
		cost  int
		knows string
	}{
		{4096, 0, "[]"}, {4097, 0, "[]"}, {1 << 31, 0, "[]"}, {all, 0, "[]"}, {65536, 0, "[]"}, {4096 + 3, 0, "[]"},
		{16, walk, "[{1 4 1}]"}, {32, walk, "[{2 5 2}]"}, {64, walk, "[{4 7 3}]"}, {80, walk, "[{5 8 0}]"},
		{96, walk, "[]"},   // its frame is none of the memory's
		{112, walk, "[]"},  // the table does not have it
		{256, walk, "[]"},  // the root has no such table
		{512, walk, "[]"},  // the table's frame is none of the memory's
		{4079, walk, "[]"}, // page 254
	} {
		m, c := space(t), core.New()
		for f := range frames - 3 {
			write(t, m, (f+3)*16, 0x04000000)
		}
		c.Set(api.Context{PC: row.pc})
		traps(t, c, m, api.Act{Cost: row.cost + trap, Trap: 1, Call: -1, PC: row.pc})
		holds(t, c, "[[] [] [] []] "+row.knows)
	}
}

// P10.2: pages with the right to run, the first and the last word of the space among them.
func TestFetches(t *testing.T) {
	for _, pc := range []uint32{0, 15, 48, 63, 224, 239, 4080, 4095} {
		m, c := space(t), core.New()
		write(t, m, place(t, pc), 0x04000000)
		x := anyContext()
		x.PC = pc
		c.Set(x)
		acts(t, c, m, api.Act{Cost: walk + miss + 1, Call: -1, PC: pc, Word: 0x04000000})
		x.PC++
		stands(t, c, x)
	}
}

// P10.2: words that are no instructions.
func TestIllegal(t *testing.T) {
	for _, w := range []uint32{0, 1, 0x04000001, 0x07FFFFFF, 0x7C000000, 0x80000000, all, 0x08000001, 0x14C48001} {
		m, c := space(t), core.New()
		write(t, m, place(t, 3), w)
		c.Set(registers(1, 2))
		traps(t, c, m, api.Act{Cost: walk + miss + trap, Trap: 2, Call: -1, PC: 3, Word: w})
		traps(t, c, m, api.Act{Cost: hit + trap, Trap: 2, Call: -1, PC: 3, Word: w})
	}
}

// P10.2: a division by 0 traps, and costs nothing of its own.
func TestDivide(t *testing.T) {
	for _, op := range []string{"div", "rem"} {
		m, c := space(t), core.New()
		word := laid(t, m, 3, op+" r1, r1, r2")[0]
		c.Set(registers(8, 0))
		traps(t, c, m, api.Act{Cost: walk + miss + trap, Trap: 5, Call: -1, PC: 3, Word: word})
	}
}

// reachRows: words of the space that may not be read, or not be written, and what the look costs and leaves known.
var reachRows = []struct {
	x           uint32
	load, store bool
	cost        int
	knows       string
}{
	{16, false, true, walk, "[{0 3 7} {1 4 1}]"},
	{31, false, true, walk, "[{0 3 7} {1 4 1}]"},
	{32, true, false, walk, "[{0 3 7} {2 5 2}]"},
	{63, true, true, walk, "[{0 3 7} {3 6 4}]"},
	{80, true, true, walk, "[{0 3 7} {5 8 0}]"},
	{96, true, true, walk, "[{0 3 7}]"},
	{112, true, true, walk, "[{0 3 7}]"},
	{256, true, true, walk, "[{0 3 7}]"},
	{512, true, true, walk, "[{0 3 7}]"},
	{4096, true, true, 0, "[{0 3 7}]"},
	{4100, true, true, 0, "[{0 3 7}]"},
	{65536, true, true, 0, "[{0 3 7}]"},
	{1 << 31, true, true, 0, "[{0 3 7}]"},
	{all, true, true, 0, "[{0 3 7}]"},
}

// P10.2: ld and st trap where there is no such word, no such page, no such frame or not the right.
func TestReachTraps(t *testing.T) {
	for _, row := range reachRows {
		for _, imm := range []string{"0", "-131072", "131071"} {
			m, c := space(t), core.New()
			words := laid(t, m, 3, "ld r2, r1, "+imm+"\nst r2, r1, "+imm)
			x := registers(row.x, 7)
			switch imm {
			case "-131072":
				x.Regs[1] += 131072
			case "131071":
				x.Regs[1] -= 131071
			}
			if row.load {
				c.Set(x)
				traps(t, c, m, api.Act{Cost: walk + miss + row.cost + trap, Trap: 3, Call: -1, PC: 3, Word: words[0]})
				holds(t, c, "[[12] [] [] []] "+row.knows)
			}
			c.Flush()
			x.PC = 4
			c.Set(x)
			if row.store {
				traps(t, c, m, api.Act{Cost: walk + miss + row.cost + trap, Trap: 4, Call: -1, PC: 4, Word: words[1]})
				holds(t, c, "[[] [13] [] []] "+row.knows)
			}
		}
	}
}

// P10.3: a page that is known costs nothing, and what the tables say of it then is not looked at.
func TestKnownPage(t *testing.T) {
	m, c := space(t), core.New()
	words := laid(t, m, 0, "ld r1, r0, 16\nld r2, r0, 17\nst r2, r0, 18")
	write(t, m, place(t, 17), 5)
	acts(t, c, m, api.Act{Cost: walk + miss + walk + miss + 1, Call: -1, Word: words[0], Read: true, Addr: 16})
	for at := range 3 * 16 {
		write(t, m, at, 0)
	}
	acts(t, c, m, api.Act{Cost: hit + hit + 1, Call: -1, PC: 1, Word: words[1], Read: true, Addr: 17, Value: 5})
	traps(t, c, m, api.Act{Cost: hit + trap, Trap: 4, Call: -1, PC: 2, Word: words[2]})
	holds(t, c, "[[16 12] [] [] []] [{0 3 7} {1 4 1}]")
	c.Flush()
	traps(t, c, m, api.Act{Cost: walk + trap, Trap: 1, Call: -1, PC: 2})
	holds(t, c, nothingHeld)
}

// P10.3: a page that is not there is walked for each time: the TLB keeps nothing of it.
func TestUnknownPage(t *testing.T) {
	m, c := space(t), core.New()
	word := laid(t, m, 3, "ld r1, r0, 112")[0]
	c.Set(registers())
	traps(t, c, m, api.Act{Cost: walk + miss + walk + trap, Trap: 3, Call: -1, PC: 3, Word: word})
	traps(t, c, m, api.Act{Cost: hit + walk + trap, Trap: 3, Call: -1, PC: 3, Word: word})
	write(t, m, lowTable*16+7, 0x80000001|4<<3)
	acts(t, c, m, api.Act{Cost: hit + walk + miss + 1, Call: -1, PC: 3, Word: word, Read: true, Addr: 112})
	holds(t, c, "[[12 16] [] [] []] [{0 3 7} {7 4 1}]")
}

// P10.3: a leaf that is known but whose frame the memory does not have fails; the finding is a use of it.
func TestKnownLeafOfNoFrame(t *testing.T) {
	for _, frame := range []int{frames, frames + 1, 1023} {
		m, c := space(t), core.New()
		words := laid(t, m, 3, "ld r1, r0, 64\nst r1, r0, 64")
		leaves := []api.Leaf{{Page: 4, Frame: frame, Rights: 7}, {Page: 0, Frame: 3, Rights: 7}}
		if e := c.Restore(api.Held{Context: registers(), Leaves: leaves}); e != api.OK {
			t.Fatalf("Restore: error %d", e)
		}
		traps(t, c, m, api.Act{Cost: miss + trap, Trap: 3, Call: -1, PC: 3, Word: words[0]})
		x := registers()
		x.PC = 4
		c.Set(x)
		traps(t, c, m, api.Act{Cost: miss + trap, Trap: 4, Call: -1, PC: 4, Word: words[1]})
		x.PC = 64
		c.Set(x)
		traps(t, c, m, api.Act{Cost: trap, Trap: 1, Call: -1, PC: 64})
		leaves[0], leaves[1] = leaves[1], leaves[0]
		if got := c.Held().Leaves; len(got) != 2 || got[0] != leaves[0] || got[1] != leaves[1] {
			t.Errorf("Leaves: %v, want %v", got, leaves)
		}
	}
}

// P10.3: the last frame of the memory is one of its own, and a known leaf of it is taken.
func TestKnownLeafOfLastFrame(t *testing.T) {
	m, c := space(t), core.New()
	write(t, m, frames*16-1, 41)
	word := laid(t, m, 3, "ld r1, r0, 127")[0]
	h := api.Held{Context: registers(), Leaves: []api.Leaf{{Page: 7, Frame: frames - 1, Rights: 1}}}
	if e := c.Restore(h); e != api.OK {
		t.Fatalf("Restore: error %d", e)
	}
	acts(t, c, m, api.Act{Cost: walk + miss + miss + 1, Call: -1, PC: 3, Word: word, Read: true, Addr: 127, Value: 41})
}

// P10.3: five pages in turn are one too many for the TLB: the least lately used one is walked for again.
func TestFifthPage(t *testing.T) {
	m, c := space(t), core.New()
	laid(t, m, 0, "ld r1, r0, 16\nld r1, r0, 64\nld r1, r0, 224\nld r1, r0, 4080\nld r1, r0, 16")
	for range 5 {
		steps(t, c, m, root, 0)
	}
	holds(t, c, "[[40 16] [13] [] []] [{14 9 7} {255 10 7} {0 3 7} {1 4 1}]")
}

// P10.6: the least and the greatest cost of an instruction.
func TestLeastAndMost(t *testing.T) {
	m, c := space(t), core.New()
	laid(t, m, 0, "jmp 0")
	steps(t, c, m, root, 0)
	if act := steps(t, c, m, root, 0); act.Cost != 2 {
		t.Errorf("the cost is %d, want 2", act.Cost)
	}
	laid(t, m, 0, "hyp 0")
	c.Flush()
	if act := steps(t, c, m, root, 0); act.Cost != most {
		t.Errorf("the cost is %d, want %d", act.Cost, most)
	}
}
