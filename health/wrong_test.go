package health_test

import (
	"math"
	"testing"

	"bulkhead/api"
	"bulkhead/health"
	"bulkhead/mem"
)

// numbers that no partition has, of whatever configuration.
var wrongNumbers = []int{-1, -2, 8, 9, 256, 1 << 31, 1 << 32, 1<<32 + 1, math.MinInt, math.MinInt + 1, math.MaxInt, math.MaxInt - 1}

// numbers that no trap has.
var wrongTraps = []int{0, 7, 8, -1, -6, 256 + 1, 1<<32 + 1, -1 << 32, math.MinInt, math.MinInt + 1, math.MaxInt}

// P23.1: a configuration that does not hold together.
func TestWrongConfig(t *testing.T) {
	for name, spoil := range map[string]func(c *api.Config){
		"nothing":              func(c *api.Config) { *c = api.Config{} },
		"no partition":         func(c *api.Config) { c.Partitions = nil },
		"no core":              func(c *api.Config) { c.Cores = nil },
		"Frames 15":            func(c *api.Config) { c.Frames = 15 },
		"Frames the greatest":  func(c *api.Config) { c.Frames = math.MaxInt },
		"Room 5":               func(c *api.Config) { c.Room = 5 },
		"Kernel 2":             func(c *api.Config) { c.Kernel = 2 },
		"Major 201":            func(c *api.Config) { c.Major = 201 },
		"Action 3":             func(c *api.Config) { c.Partitions[0].Action = 3 },
		"Action -1":            func(c *api.Config) { c.Partitions[0].Action = -1 },
		"Restarts 16":          func(c *api.Config) { c.Partitions[2].Restarts = 16 },
		"Restarts -1":          func(c *api.Config) { c.Partitions[1].Restarts = -1 },
		"Outputs 17":           func(c *api.Config) { c.Partitions[2].Outputs = 17 },
		"Entry 16":             func(c *api.Config) { c.Partitions[0].Entry = 16 },
		"two of one name":      func(c *api.Config) { c.Partitions[1].Name = "a" },
		"a frame of both":      func(c *api.Config) { c.Partitions[1].Regions[0].Frame = 0 },
		"a channel by itself":  func(c *api.Config) { c.Channels = []api.Channel{{Kind: api.KindSampling, Words: 1}} },
		"very many partitions": func(c *api.Config) { c.Partitions = make([]api.Partition, 100000) },
	} {
		c := known()
		spoil(&c)
		if w, e := health.New(c); w != nil || e != api.ErrHealthConfig {
			t.Errorf("%s: New: %v, error %d, want error %d", name, w, e, api.ErrHealthConfig)
		}
	}
	wardsOf(t, known())
}

// refuses asks that all calls but Begin and Save answer an error, with zeros beside it.
func refuses(t *testing.T, w *health.Wards, m *mem.Memory, p int, e api.Errno) {
	t.Helper()
	stands(t, w, m, p, api.Status{}, e)
	for trap := api.TrapFetch; trap <= api.TrapCall; trap++ {
		traps(t, w, m, p, trap, 9, false, e)
	}
	is(t, "Yield", w.Yield(m, p), e)
	is(t, "Stop", w.Stop(m, p), e)
	loads(t, w, m, p, api.Context{}, 0, e)
}

// refusesAll asks the same of all calls.
func refusesAll(t *testing.T, w *health.Wards, m *mem.Memory, p int, e api.Errno) {
	t.Helper()
	refuses(t, w, m, p, e)
	is(t, "Begin", w.Begin(m, p), e)
	is(t, "Save", w.Save(m, p, context(1)), e)
}

// P23.2 to P23.7, R2: nil wards and a nil memory: ErrNil ahead of all others.
func TestNil(t *testing.T) {
	var none *health.Wards
	w := wardsOf(t, known())
	m, before := marked(t)
	small := memory(t, 1)
	for _, p := range append(wrongNumbers, 0, 1, 2, 3) {
		refusesAll(t, none, m, p, api.ErrNil)
		refusesAll(t, none, nil, p, api.ErrNil)
		refusesAll(t, none, small, p, api.ErrNil)
		refusesAll(t, w, nil, p, api.ErrNil)
		for _, trap := range wrongTraps {
			traps(t, none, m, p, trap, 1, false, api.ErrNil)
			traps(t, none, small, p, trap, 1, false, api.ErrNil)
			traps(t, w, nil, p, trap, 1, false, api.ErrNil)
		}
	}
	stays(t, m, before)
}

// P23.2 to P23.7: a memory of another number of frames: ErrArg ahead of a partition that is none and of a state that is not right.
func TestOtherFrames(t *testing.T) {
	w := wardsOf(t, known())
	for _, frames := range []int{1, 3, 8, 15, 17, 32, 1024} {
		for _, fill := range []uint32{0, 5} {
			m := memory(t, frames)
			m.Fill(0, frames*api.FrameWords, fill)
			before := m.Words()
			for _, p := range append(wrongNumbers, 0, 1, 2, 3) {
				refusesAll(t, w, m, p, api.ErrArg)
			}
			stays(t, m, before)
		}
	}
}

// P23.4: a trap that is none: ErrArg ahead of a partition that is none and of a state that is not right.
func TestWrongTraps(t *testing.T) {
	w := wardsOf(t, known())
	for _, fill := range []uint32{0, 5} {
		m := memory(t, 16)
		m.Fill(0, 256, fill)
		before := m.Words()
		for _, trap := range wrongTraps {
			for _, p := range append(wrongNumbers, 0, 1, 2, 3) {
				traps(t, w, m, p, trap, 0, false, api.ErrArg)
				traps(t, w, m, p, trap, 7, false, api.ErrArg)
			}
		}
		stays(t, m, before)
	}
}

// P23.2 to P23.7: no such partition, whatever the memory's words are.
func TestNoPartition(t *testing.T) {
	w := wardsOf(t, known())
	for _, fill := range []uint32{0, 5} {
		m := memory(t, 16)
		m.Fill(0, 256, fill)
		before := m.Words()
		for _, p := range append(wrongNumbers, 3) {
			refusesAll(t, w, m, p, api.ErrHealthPartition)
		}
		stays(t, m, before)
	}
}

// P23.2 to P23.8: a state that is not right, by each of its rules, one at a time; Begin and Save don't ask.
func TestWrongStates(t *testing.T) {
	w := wardsOf(t, known())
	for _, x := range []struct {
		p, state, save int
		five           []uint32
	}{
		{0, stateOf0, saveOf0, []uint32{4, 0, 0, 0, 0}}, {0, stateOf0, saveOf0, []uint32{5, 0, 1, 0, 0}},
		{0, stateOf0, saveOf0, []uint32{1 << 31, 0, 0, 0, 0}}, {0, stateOf0, saveOf0, []uint32{math.MaxUint32, 0, 0, 0, 0}},
		{0, stateOf0, saveOf0, []uint32{0, 2, 0, 0, 0}}, {0, stateOf0, saveOf0, []uint32{3, 2, 1, 0, 0}},
		{0, stateOf0, saveOf0, []uint32{0, 1 << 31, 0, 0, 0}}, {0, stateOf0, saveOf0, []uint32{0, math.MaxUint32, 0, 0, 0}},
		{0, stateOf0, saveOf0, []uint32{0, 0, 7, 0, 0}}, {0, stateOf0, saveOf0, []uint32{0, 0, 1 << 31, 0, 0}}, {0, stateOf0, saveOf0, []uint32{0, 0, math.MaxUint32, 0, 0}},
		{0, stateOf0, saveOf0, []uint32{0, 0, 0, 1, 0}}, {0, stateOf0, saveOf0, []uint32{3, 1, 0, math.MaxUint32, 0}},
		{0, stateOf0, saveOf0, []uint32{0, 0, 0, 0, 1}}, {0, stateOf0, saveOf0, []uint32{0, 0, 0, 0, 1 << 31}}, {0, stateOf0, saveOf0, []uint32{0, 0, 0, 0, math.MaxUint32}},
		{0, stateOf0, saveOf0, []uint32{2, 1, 3, 12, 0}}, {0, stateOf0, saveOf0, []uint32{2, 1, 0, 0, 0}}, {0, stateOf0, saveOf0, []uint32{2, 2, 3, 12, 0}},
		{1, stateOf1, saveOf1, []uint32{2, 0, 0, 0, 0}}, {1, stateOf1, saveOf1, []uint32{2, 3, 1, 5, 0}}, {1, stateOf1, saveOf1, []uint32{2, 2, 1, 5, 1}},
		{1, stateOf1, saveOf1, []uint32{0, 4, 0, 0, 0}}, {1, stateOf1, saveOf1, []uint32{0, 0, 0, 0, 3}}, {1, stateOf1, saveOf1, []uint32{0, 0, 0, 5, 2}},
		{2, stateOf2, saveOf2, []uint32{2, 15, 6, 5, 0}}, {2, stateOf2, saveOf2, []uint32{0, 16, 6, 5, 0}}, {2, stateOf2, saveOf2, []uint32{1, 15, 6, 5, 17}},
		{2, stateOf2, saveOf2, []uint32{2, 16, 6, 5, 0}}, {2, stateOf2, saveOf2, []uint32{2, 1, 0, 1, 0}},
	} {
		m, want := marked(t)
		puts(t, m, want, x.state, x.five...)
		refuses(t, w, m, x.p, api.ErrHealthForm)
		stays(t, m, want)
		is(t, "Save", w.Save(m, x.p, context(70)), api.OK)
		copy(want[x.save:], wordsOf(context(70)))
		stays(t, m, want)
		refuses(t, w, m, x.p, api.ErrHealthForm)
		stays(t, m, want)
		is(t, "Begin", w.Begin(m, x.p), api.OK)
		stands(t, w, m, x.p, api.Status{}, api.OK)
		if t.Failed() {
			t.Fatalf("partition %d with the state %d", x.p, x.five)
		}
	}
}

// P23.2: Restarts 0: to be begun anew is right for none.
func TestNoRestartWithoutRestarts(t *testing.T) {
	for _, action := range []int{api.ActionHalt, api.ActionWarm, api.ActionCold} {
		c := known()
		c.Partitions[0].Action, c.Partitions[0].Restarts = action, 0
		w, m := wardsOf(t, c), memory(t, 16)
		m.Write(stateOf0, api.StateRestart)
		refuses(t, w, m, 0, api.ErrHealthForm)
		m.Write(stateOf0, api.StateHalted)
		stands(t, w, m, 0, api.Status{State: api.StateHalted}, api.OK)
		m.Write(stateOf0+1, 1)
		refuses(t, w, m, 0, api.ErrHealthForm)
	}
}

// One partition's state is asked alone: what the others' words are is nothing to it.
func TestOthersAreNotAsked(t *testing.T) {
	w := wardsOf(t, known())
	m, want := marked(t)
	puts(t, m, want, stateOf1, 0, 0, 0, 0, 0)
	is(t, "Yield", w.Yield(m, 1), api.OK)
	traps(t, w, m, 1, api.TrapStore, 8, true, api.OK)
	stands(t, w, m, 1, api.Status{State: api.StateHalted, Trap: api.TrapStore, PC: 8}, api.OK)
	copy(want[stateOf1:], []uint32{3, 0, 4, 8, 0})
	stays(t, m, want)
}
