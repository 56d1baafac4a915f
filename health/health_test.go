package health_test

import (
	"math"
	"testing"

	"bulkhead/api"
	"bulkhead/health"
	"bulkhead/mem"
)

// Where the words of the partitions lie in the memory of the examples' configuration: the barrier at 48, then 24 words for each partition, two of them for its lock.
const (
	saveOf0, stateOf0 = 52, 69
	saveOf1, stateOf1 = 76, 93
	saveOf2, stateOf2 = 100, 117
)

// known is the configuration of the chapter's examples, with others beside its partition 0.
func known() api.Config {
	room := func(page, frame int) []api.Region {
		return []api.Region{{Page: page, Pages: 1, Frame: frame, Rights: 7}}
	}
	return api.Config{
		Frames: 16, Major: 200, Kernel: 3, Room: 13,
		Cores: [][]api.Window{{{Partition: 0, Usable: 100, Slack: 100}}},
		Partitions: []api.Partition{
			{Name: "a", Entry: 5, Action: api.ActionCold, Restarts: 1, Regions: room(0, 0)},
			{Name: "b", Entry: 4095, Action: api.ActionHalt, Restarts: 3, Outputs: 2, Regions: room(255, 1)},
			{Name: "c", Entry: 17, Action: api.ActionWarm, Restarts: 15, Outputs: 16, Regions: room(1, 2)},
		},
	}
}

// wardsOf makes a configuration's wards.
func wardsOf(t *testing.T, c api.Config) *health.Wards {
	t.Helper()
	w, e := health.New(c)
	if w == nil || e != api.OK {
		t.Fatalf("New: %v, error %d", w, e)
	}
	return w
}

// memory makes one of so many frames of zeros.
func memory(t *testing.T, frames int) *mem.Memory {
	t.Helper()
	m, e := mem.New(frames)
	if e != api.OK {
		t.Fatalf("mem.New(%d): error %d", frames, e)
	}
	return m
}

// marked makes a memory of the examples' size without a word of 0, and tells its words; no partition's state is right in it.
func marked(t *testing.T) (*mem.Memory, []uint32) {
	t.Helper()
	words := make([]uint32, 256)
	for i := range words {
		words[i] = uint32(i)*0x01010101 + 0x80000001
	}
	m, e := mem.Of(words)
	if e != api.OK {
		t.Fatalf("mem.Of: error %d", e)
	}
	return m, words
}

// puts lays words down in a memory and in what it must be.
func puts(t *testing.T, m *mem.Memory, want []uint32, at int, words ...uint32) {
	t.Helper()
	if e := m.Lay(at, words); e != api.OK {
		t.Fatalf("Lay: error %d", e)
	}
	copy(want[at:], words)
}

// context makes one whose words are from on, counted up.
func context(from uint32) api.Context {
	x := api.Context{PC: from + api.Registers}
	for i := range x.Regs {
		x.Regs[i] = from + uint32(i)
	}
	return x
}

// wordsOf tells a context as the memory has it.
func wordsOf(x api.Context) []uint32 { return append(append([]uint32(nil), x.Regs[:]...), x.PC) }

// stays asks that a memory has these words.
func stays(t *testing.T, m *mem.Memory, want []uint32) {
	t.Helper()
	for at, w := range m.Words() {
		if at >= len(want) || w != want[at] {
			t.Errorf("the word %d is %x", at, w)
			return
		}
	}
}

// is asks for an error.
func is(t *testing.T, what string, got, want api.Errno) {
	t.Helper()
	if got != want {
		t.Errorf("%s: error %d, want %d", what, got, want)
	}
}

// stands asks how a partition stands.
func stands(t *testing.T, w *health.Wards, m *mem.Memory, p int, want api.Status, e api.Errno) {
	t.Helper()
	if s, f := w.Status(m, p); s != want || f != e {
		t.Errorf("Status(%d): %v, error %d, want %v, error %d", p, s, f, want, e)
	}
}

// traps lets a partition trap.
func traps(t *testing.T, w *health.Wards, m *mem.Memory, p, trap int, pc uint32, halted bool, e api.Errno) {
	t.Helper()
	if h, f := w.Trap(m, p, trap, pc); h != halted || f != e {
		t.Errorf("Trap(%d, %d, %d): %v, error %d, want %v, error %d", p, trap, pc, h, f, halted, e)
	}
}

// loads lets a partition's window begin.
func loads(t *testing.T, w *health.Wards, m *mem.Memory, p int, want api.Context, action int, e api.Errno) {
	t.Helper()
	if x, a, f := w.Load(m, p); x != want || a != action || f != e {
		t.Errorf("Load(%d): %v, %d, error %d, want %v, %d, error %d", p, x, a, f, want, action, e)
	}
}

// The examples of the chapter, row by row, with the words in the memory.
func TestExamples(t *testing.T) {
	w, m := wardsOf(t, known()), memory(t, 16)
	is(t, "Begin", w.Begin(m, 0), api.OK)
	want := make([]uint32, 256)
	want[saveOf0+16] = 5
	stays(t, m, want)
	behind := func(five ...uint32) {
		t.Helper()
		copy(want[stateOf0:], five)
		stays(t, m, want)
		stands(t, w, m, 0, api.Status{State: int(five[0]), Restarts: int(five[1]), Trap: int(five[2]), PC: five[3], Outs: int(five[4])}, api.OK)
		stays(t, m, want)
	}

	loads(t, w, m, 0, api.Context{PC: 5}, 0, api.OK)
	behind(0, 0, 0, 0, 0)

	kept := api.Context{PC: 9}
	kept.Regs[1] = 4
	is(t, "Save", w.Save(m, 0, kept), api.OK)
	want[saveOf0+1], want[saveOf0+16] = 4, 9
	stays(t, m, want)
	is(t, "Yield", w.Yield(m, 0), api.OK)
	behind(1, 0, 0, 0, 0)

	loads(t, w, m, 0, kept, 0, api.OK)
	behind(0, 0, 0, 0, 0)

	traps(t, w, m, 0, api.TrapLoad, 12, false, api.OK)
	behind(2, 0, 3, 12, 0)

	loads(t, w, m, 0, api.Context{PC: 5}, api.ActionCold, api.OK)
	behind(0, 1, 3, 12, 0)

	traps(t, w, m, 0, api.TrapDivide, 7, true, api.OK)
	behind(3, 1, 5, 7, 0)
	loads(t, w, m, 0, kept, 0, api.OK)
	behind(3, 1, 5, 7, 0)

	traps(t, w, m, 0, 0, 7, false, api.ErrArg)
	traps(t, w, m, 0, 7, 7, false, api.ErrArg)
	is(t, "Stop(9)", w.Stop(m, 9), api.ErrHealthPartition)
	is(t, "Stop(nil)", w.Stop(nil, 0), api.ErrNil)
	behind(3, 1, 5, 7, 0)
}

// P23.2: the five words by their names, at their edges.
func TestStatus(t *testing.T) {
	w := wardsOf(t, known())
	m, want := marked(t)
	for _, five := range [][]uint32{
		{0, 0, 0, 0, 0}, {1, 0, 0, 0, 0}, {3, 0, 0, 0, 0}, {2, 0, 1, 0, 0}, {2, 14, 6, 5, 0}, {3, 15, 4, 7, 16},
		{0, 15, 0, 0, 16}, {1, 7, 3, math.MaxUint32, 9}, {2, 0, 0, 0, 0}, {3, 1, 2, 1 << 31, 1},
	} {
		puts(t, m, want, stateOf2, five...)
		stands(t, w, m, 2, api.Status{State: int(five[0]), Restarts: int(five[1]), Trap: int(five[2]), PC: five[3], Outs: int(five[4])}, api.OK)
		stays(t, m, want)
	}
}

// P23.3, P23.8: whatever stood there; behind it the state is right, and no other word has changed.
func TestBegin(t *testing.T) {
	w := wardsOf(t, known())
	m, want := marked(t)
	for _, x := range []struct {
		p, save, state int
		entry          uint32
	}{{0, saveOf0, stateOf0, 5}, {1, saveOf1, stateOf1, 4095}, {2, saveOf2, stateOf2, 17}} {
		stands(t, w, m, x.p, api.Status{}, api.ErrHealthForm)
		for range 2 {
			is(t, "Begin", w.Begin(m, x.p), api.OK)
			clear(want[x.save : x.save+17])
			clear(want[x.state : x.state+5])
			want[x.save+16] = x.entry
			stays(t, m, want)
			stands(t, w, m, x.p, api.Status{}, api.OK)
			loads(t, w, m, x.p, api.Context{PC: x.entry}, 0, api.OK)
			stays(t, m, want)
		}
	}
}

// P23.3: the entry 0 is one, too.
func TestBeginAtNought(t *testing.T) {
	c := known()
	c.Partitions[0].Entry = 0
	w, m := wardsOf(t, c), memory(t, 16)
	m.Fill(0, 256, 7)
	is(t, "Begin", w.Begin(m, 0), api.OK)
	loads(t, w, m, 0, api.Context{}, 0, api.OK)
}

// P23.4, P23.8: each trap, ahead of each state: what is noted, what becomes of it, and no other word.
func TestTrap(t *testing.T) {
	w := wardsOf(t, known())
	for trap := api.TrapFetch; trap <= api.TrapCall; trap++ {
		for _, pc := range []uint32{0, 1, 4095, 4096, 1 << 31, math.MaxUint32} {
			for _, x := range []struct {
				p, at  int
				was    []uint32
				halted bool
			}{
				{0, stateOf0, []uint32{0, 0, 0, 0, 0}, false}, {0, stateOf0, []uint32{1, 0, 6, 9, 0}, false},
				{0, stateOf0, []uint32{2, 0, 1, 9, 0}, false}, {0, stateOf0, []uint32{3, 0, 0, 0, 0}, false},
				{0, stateOf0, []uint32{0, 1, 2, 0, 0}, true}, {0, stateOf0, []uint32{1, 1, 0, 0, 0}, true}, {0, stateOf0, []uint32{3, 1, 2, 8, 0}, true},
				{1, stateOf1, []uint32{0, 0, 0, 0, 2}, true}, {1, stateOf1, []uint32{1, 3, 0, 0, 1}, true},
				{1, stateOf1, []uint32{3, 2, 5, 1, 0}, true}, {1, stateOf1, []uint32{0, 1, 5, 1, 0}, true},
				{2, stateOf2, []uint32{0, 14, 0, 0, 16}, false}, {2, stateOf2, []uint32{2, 14, 6, 3, 11}, false}, {2, stateOf2, []uint32{3, 0, 6, 3, 11}, false},
				{2, stateOf2, []uint32{0, 15, 0, 0, 16}, true}, {2, stateOf2, []uint32{1, 15, 3, 3, 5}, true},
			} {
				m, want := marked(t)
				puts(t, m, want, x.at, x.was...)
				traps(t, w, m, x.p, trap, pc, x.halted, api.OK)
				want[x.at], want[x.at+2], want[x.at+3] = api.StateRestart, uint32(trap), pc
				if x.halted {
					want[x.at] = api.StateHalted
				}
				stays(t, m, want)
			}
		}
	}
}

// P23.4: without restarts the first trap halts, whatever the action is.
func TestTrapWithoutRestarts(t *testing.T) {
	for _, action := range []int{api.ActionHalt, api.ActionWarm, api.ActionCold} {
		c := known()
		c.Partitions[0].Action, c.Partitions[0].Restarts = action, 0
		w, m := wardsOf(t, c), memory(t, 16)
		is(t, "Begin", w.Begin(m, 0), api.OK)
		traps(t, w, m, 0, api.TrapFetch, 3, true, api.OK)
		stands(t, w, m, 0, api.Status{State: api.StateHalted, Trap: 1, PC: 3}, api.OK)
	}
}

// P23.5, P23.8: one word alone, whatever it was.
func TestYieldAndStop(t *testing.T) {
	w := wardsOf(t, known())
	for was := range uint32(4) {
		for _, rest := range [][]uint32{{0, 0, 0, 0}, {14, 6, math.MaxUint32, 16}} {
			m, want := marked(t)
			puts(t, m, want, stateOf2, append([]uint32{was}, rest...)...)
			again := m.Clone()
			is(t, "Yield", w.Yield(m, 2), api.OK)
			want[stateOf2] = api.StateYielded
			stays(t, m, want)
			is(t, "Stop", w.Stop(again, 2), api.OK)
			want[stateOf2] = api.StateHalted
			stays(t, again, want)
		}
	}
}

// P23.6, P23.8: by the state, with all words of the memory.
func TestLoad(t *testing.T) {
	w := wardsOf(t, known())
	for _, x := range []struct {
		p, save, state int
		was, behind    []uint32
		anew           api.Context
		action         int
	}{
		{0, saveOf0, stateOf0, []uint32{0, 1, 2, 3, 0}, []uint32{0, 1, 2, 3, 0}, api.Context{}, 0},
		{0, saveOf0, stateOf0, []uint32{3, 0, 2, 3, 0}, []uint32{3, 0, 2, 3, 0}, api.Context{}, 0},
		{0, saveOf0, stateOf0, []uint32{1, 1, 2, 3, 0}, []uint32{0, 1, 2, 3, 0}, api.Context{}, 0},
		{0, saveOf0, stateOf0, []uint32{2, 0, 2, 3, 0}, []uint32{0, 1, 2, 3, 0}, api.Context{PC: 5}, api.ActionCold},
		{1, saveOf1, stateOf1, []uint32{0, 3, 0, 0, 2}, []uint32{0, 3, 0, 0, 2}, api.Context{}, 0},
		{1, saveOf1, stateOf1, []uint32{1, 0, 0, 0, 1}, []uint32{0, 0, 0, 0, 1}, api.Context{}, 0},
		{1, saveOf1, stateOf1, []uint32{3, 1, 6, 0, 0}, []uint32{3, 1, 6, 0, 0}, api.Context{}, 0},
		{2, saveOf2, stateOf2, []uint32{2, 0, 0, 0, 16}, []uint32{0, 1, 0, 0, 16}, api.Context{PC: 17}, api.ActionWarm},
		{2, saveOf2, stateOf2, []uint32{2, 14, 1, math.MaxUint32, 9}, []uint32{0, 15, 1, math.MaxUint32, 9}, api.Context{PC: 17}, api.ActionWarm},
		{2, saveOf2, stateOf2, []uint32{3, 15, 1, 4, 9}, []uint32{3, 15, 1, 4, 9}, api.Context{}, 0},
	} {
		m, want := marked(t)
		kept := context(0xfffffff8)
		puts(t, m, want, x.save, wordsOf(kept)...)
		puts(t, m, want, x.state, x.was...)
		if x.action == 0 {
			x.anew = kept
		}
		loads(t, w, m, x.p, x.anew, x.action, api.OK)
		copy(want[x.state:], x.behind)
		stays(t, m, want)
	}
}

// P23.6: the entry 0 is begun anew at, too, with either action.
func TestLoadAnewAtNought(t *testing.T) {
	for _, action := range []int{api.ActionWarm, api.ActionCold} {
		c := known()
		c.Partitions[0].Entry, c.Partitions[0].Action = 0, action
		w, m := wardsOf(t, c), memory(t, 16)
		m.Fill(0, 256, 7)
		is(t, "Begin", w.Begin(m, 0), api.OK)
		is(t, "Save", w.Save(m, 0, context(100)), api.OK)
		traps(t, w, m, 0, api.TrapCall, 30, false, api.OK)
		loads(t, w, m, 0, api.Context{}, action, api.OK)
		loads(t, w, m, 0, context(100), 0, api.OK)
	}
}

// P23.7, P23.8: seventeen words, whatever the state is, and no others.
func TestSave(t *testing.T) {
	w := wardsOf(t, known())
	m, want := marked(t)
	for p, at := range []int{saveOf0, saveOf1, saveOf2} {
		for _, from := range []uint32{0, 0x80000000, 0xfffffff0, 41} {
			x := context(from)
			is(t, "Save", w.Save(m, p, x), api.OK)
			copy(want[at:], wordsOf(x))
			stays(t, m, want)
		}
		is(t, "Save", w.Save(m, p, api.Context{}), api.OK)
		clear(want[at : at+17])
		stays(t, m, want)
	}
}

// P23.8: where the words lie hangs on Kernel.
func TestPlaces(t *testing.T) {
	c := known()
	c.Kernel, c.Frames = 9, 22
	w, m := wardsOf(t, c), memory(t, 22)
	want := make([]uint32, 352)
	is(t, "Begin", w.Begin(m, 1), api.OK)
	want[saveOf1+6*16+16] = 4095
	stays(t, m, want)
	is(t, "Stop", w.Stop(m, 2), api.OK)
	want[stateOf2+6*16] = api.StateHalted
	stays(t, m, want)
}

// R5: what is handed in is neither changed nor kept.
func TestConfigIsNotKept(t *testing.T) {
	c := known()
	w, m := wardsOf(t, c), memory(t, 16)
	for p := range c.Partitions {
		c.Partitions[p].Entry, c.Partitions[p].Action, c.Partitions[p].Restarts = 1, api.ActionHalt, 0
		clear(c.Partitions[p].Regions)
	}
	clear(c.Partitions)
	is(t, "Begin", w.Begin(m, 0), api.OK)
	traps(t, w, m, 0, api.TrapLoad, 1, false, api.OK)
	loads(t, w, m, 0, api.Context{PC: 5}, api.ActionCold, api.OK)
}
