package health

import (
	"bulkhead/api"
	"bulkhead/mem"
)

// The words of a partition's state.
const (
	atState = iota
	atRestarts
	atTrap
	atPC
	atOuts
	stateWords // how many they are
)

// savedWords is how many words a saved context has: the registers, and PC behind them.
const savedWords = api.Registers + 1

// state is the words of a partition's state, as they stand in the memory.
type state [stateWords]uint32

// status tells a right state's words by their names.
func (s state) status() api.Status {
	return api.Status{
		State: int(s[atState]), Restarts: int(s[atRestarts]),
		Trap: int(s[atTrap]), PC: s[atPC], Outs: int(s[atOuts]),
	}
}

// ward is what is known of one partition for good.
type ward struct {
	saveAt, stateAt   int // where its words begin
	entry             uint32
	restarts, outputs uint32 // the most that its state may say
	care              care
}

// wardsOf tells those of all partitions.
func wardsOf(c api.Config, l api.Layout) []ward {
	out := make([]ward, len(c.Partitions))
	for p, partition := range c.Partitions {
		out[p] = ward{
			saveAt: l.Partitions[p].Save, stateAt: l.Partitions[p].State,
			entry:    uint32(partition.Entry),
			restarts: uint32(partition.Restarts), outputs: uint32(partition.Outputs),
			care: careOf(partition.Action),
		}
	}
	return out
}

// right tells whether the partition may be in such a state.
func (d ward) right(s state) bool {
	// To be begun anew is right just where a trap would not have halted it.
	if s[atState] == api.StateRestart && d.care.halts(s[atRestarts], d.restarts) {
		return false
	}
	return s[atState] <= api.StateHalted && s[atRestarts] <= d.restarts &&
		s[atTrap] <= api.TrapCall && (s[atTrap] != api.TrapNone || s[atPC] == 0) &&
		s[atOuts] <= d.outputs
}

// read tells the state's words.
func (d ward) read(m *mem.Memory) (state, api.Errno) {
	words, e := m.Take(d.stateAt, stateWords)
	if e != api.OK {
		return state{}, e
	}
	var s state
	copy(s[:], words)
	return s, api.OK
}

// write writes some words of the state, from one of them on, and no others: a word that is not named may not be written, be it with what stands there.
func (d ward) write(m *mem.Memory, from int, words ...uint32) api.Errno {
	return m.Lay(d.stateAt+from, words)
}

// saved tells the saved context.
func (d ward) saved(m *mem.Memory) (api.Context, api.Errno) {
	words, e := m.Take(d.saveAt, savedWords)
	if e != api.OK {
		return api.Context{}, e
	}
	x := api.Context{PC: words[api.Registers]}
	copy(x.Regs[:], words)
	return x, api.OK
}

// save saves a context.
func (d ward) save(m *mem.Memory, x api.Context) api.Errno {
	words := make([]uint32, savedWords)
	copy(words, x.Regs[:])
	words[api.Registers] = x.PC
	return m.Lay(d.saveAt, words)
}

// again lets the partition begin anew, for so many times in all.
func (d ward) again(m *mem.Memory, restarts uint32) (api.Context, int, api.Errno) {
	if e := d.write(m, atState, api.StateReady, restarts); e != api.OK {
		return api.Context{}, 0, e
	}
	x, action := d.care.anew(d.entry)
	return x, action, api.OK
}
