package kernel

import (
	"slices"

	"bulkhead/api"
	"bulkhead/barrier"
	"bulkhead/core"
	"bulkhead/duct"
	"bulkhead/isa"
	"bulkhead/lock"
	"bulkhead/mem"
	"bulkhead/page"
)

// leastCall is what the cheapest call costs: its word's line is held.
const leastCall = api.CostHit + api.CostCall

// hasTables tells whether a memory of as many frames has the page tables of the beginning, which the machine's own has.
func (k *Kernel) hasTables(m *mem.Memory) bool {
	for _, place := range k.lies.Partitions {
		for _, frame := range append([]int{place.Root}, place.Tables...) {
			want, _ := k.m.Take(frame*api.FrameWords, api.FrameWords)
			if got, _ := m.Take(frame*api.FrameWords, api.FrameWords); !slices.Equal(got, want) {
				return false
			}
		}
	}
	return true
}

// mayBe tells whether these states of cores may be, with the memory as it is; its tables are right.
func (k *Kernel) mayBe(cores []api.CoreState) bool {
	return len(cores) == len(k.units) &&
		k.epochsFit(cores) && k.partitionsFit() && k.channelsFit() &&
		k.coresFit(cores) && k.locksFit(cores)
}

// epochsFit tells whether the cores' epochs and modes fit the barrier, and the barrier them.
func (k *Kernel) epochsFit(cores []api.CoreState) bool {
	v, e := barrier.Look(k.m, k.lies.Barrier)
	if e != api.OK || v.Epoch > api.MaxEpoch {
		return false
	}
	come := 0
	for _, s := range cores {
		if !epochFits(s, v.Epoch) {
			return false
		}
		if s.Mode == api.ModeWait && s.Epoch == v.Epoch {
			come++
		}
	}
	return v.Come == come && come < len(cores)
}

// epochFits tells whether a core can be in its mode and epoch, when the barrier is in that one.
func epochFits(s api.CoreState, now int) bool {
	switch s.Mode {
	case api.ModeRun, api.ModeCall, api.ModeArrive:
		return s.Epoch == now && now < api.MaxEpoch
	case api.ModeWait:
		return s.Epoch == now && now < api.MaxEpoch || s.Epoch == now-1 && s.Epoch >= 0
	case api.ModeEnd:
		return s.Epoch == now && now == api.MaxEpoch
	}
	return false
}

func (k *Kernel) partitionsFit() bool {
	for p := range k.config.Partitions {
		if _, e := k.wards.Status(k.m, p); e != api.OK {
			return false
		}
	}
	return true
}

// channelsFit asks how each port stands: of a source that is refused where its stage is not of its form, of a destination where its own words are not. Each channel has a source, so all are asked.
func (k *Kernel) channelsFit() bool {
	ducts, e := duct.New(api.Config(k.config))
	if e != api.OK {
		return false
	}
	for p, partition := range k.config.Partitions {
		for port := range partition.Ports {
			if _, _, _, e := ducts.Status(k.m, p, port); e != api.OK {
				return false
			}
		}
	}
	return true
}

func (k *Kernel) coresFit(cores []api.CoreState) bool {
	for i, s := range cores {
		if !k.coreFits(k.units[i], s) {
			return false
		}
	}
	return true
}

// coreFits tells whether a core can be in such a state, as far as no other core is asked.
func (k *Kernel) coreFits(u *unit, s api.CoreState) bool {
	if core.New().Restore(s.Held) != api.OK {
		return false
	}
	switch s.Mode {
	case api.ModeRun:
		return within(s.Window, len(u.windows)) && withoutCall(s) && k.runFits(u.windows[s.Window], s)
	case api.ModeCall:
		return within(s.Window, len(u.windows)) && k.callFits(u.windows[s.Window], s)
	}
	return s.Window == 0 && s.Used == 0 && holdsNothing(s.Held) && withoutCall(s)
}

// withoutCall tells whether a state says nothing of a call.
func withoutCall(s api.CoreState) bool {
	return s.Act == api.Act{} && len(s.Chain) == 0 && s.Locks == 0 && !s.Asked && len(s.Tickets) == 0 &&
		!s.Done && !s.Tells && s.Word == 0
}

// holdsNothing tells whether a core that holds such holds nothing.
func holdsNothing(h api.Held) bool {
	for _, lines := range h.Lines {
		if len(lines) > 0 {
			return false
		}
	}
	return len(h.Leaves) == 0 && h.Context == api.Context{}
}

// runFits tells whether a core can be so far in a window, in mode run.
func (k *Kernel) runFits(w api.Window, s api.CoreState) bool {
	if w.Partition == nobody {
		return s.Used == 0 && holdsNothing(s.Held)
	}
	return between(s.Used, 0, w.Usable-1+api.MostCost) && k.heldFits(w.Partition, s.Held)
}

// heldFits tells whether the lines that are held lie in the memory, and the leaves are the partition's.
func (k *Kernel) heldFits(p int, h api.Held) bool {
	lines := k.Frames * (api.FrameWords / api.LineWords)
	for _, set := range h.Lines {
		for _, line := range set {
			if !within(line, lines) {
				return false
			}
		}
	}
	for _, leaf := range h.Leaves {
		if there, e := page.Walk(k.m, k.lies.Partitions[p].Root, leaf.Page); e != api.OK || there != leaf {
			return false
		}
	}
	return true
}

// callFits tells whether a core can be so far in a window, with such a call under way.
func (k *Kernel) callFits(w api.Window, s api.CoreState) bool {
	if w.Partition == nobody || !k.heldFits(w.Partition, s.Held) || !actFits(s) {
		return false
	}
	if !between(s.Used, s.Act.Cost, w.Usable-1+s.Act.Cost) {
		return false
	}
	if _, e := lock.Restore(s.Chain, s.Locks, s.Asked, s.Tickets); e != api.OK {
		return false
	}
	status, e := k.wards.Status(k.m, w.Partition)
	if e != api.OK {
		return false
	}
	if s.Done {
		return k.doneFits(w.Partition, status, s)
	}
	locks, e := k.calls.Locks(w.Partition, s.Act.Call, s.Held.Context)
	return e == api.OK && slices.Equal(s.Chain, locks) && !s.Tells && s.Word == 0 && status.State == api.StateReady
}

// actFits tells whether a call can have begun with such an act, and such a context behind it.
func actFits(s api.CoreState) bool {
	if !within(s.Act.Call, api.CallEnd) || !between(s.Act.Cost, leastCall, api.MostCost) || s.Act.PC >= api.Space {
		return false
	}
	word, e := isa.Encode(api.Ins{Op: api.OpHyp, Imm: s.Act.Call})
	if e != api.OK {
		return false
	}
	// Whatever else an act can say is zero in that of a call.
	plain := api.Act{Cost: s.Act.Cost, Call: s.Act.Call, PC: s.Act.PC, Word: word}
	return s.Act == plain && s.Held.Context.PC == s.Act.PC+1
}

// doneFits tells whether a call of a partition that stands so can have been carried out.
func (k *Kernel) doneFits(p int, status api.Status, s api.CoreState) bool {
	told := s.Act.Call == api.CallOutput && s.Held.Context.Regs[1] == api.ToldOK
	return k.doneChain(p, s) && s.Locks > 0 && !s.Asked &&
		s.Tells == told && (told || s.Word == 0) &&
		status.State == stateBehind(s.Act.Call)
}

// doneChain tells whether a call that has been carried out can have had these locks: which port it was of is not known any more.
func (k *Kernel) doneChain(p int, s api.CoreState) bool {
	own := k.lies.Partitions[p].Lock
	if slices.Equal(s.Chain, []int{own}) {
		return true
	}
	switch s.Act.Call {
	case api.CallSend, api.CallReceive, api.CallStatus:
		for _, port := range k.config.Partitions[p].Ports {
			if slices.Equal(s.Chain, []int{own, k.lies.Channels[port.Channel].Lock}) {
				return true
			}
		}
	}
	return false
}

// stateBehind tells the state of a partition behind a call.
func stateBehind(call int) int {
	switch call {
	case api.CallYield:
		return api.StateYielded
	case api.CallStop:
		return api.StateHalted
	}
	return api.StateReady
}

// locksFit tells whether the tickets of all locks are with the calls under way, which fit by themselves.
func (k *Kernel) locksFit(cores []api.CoreState) bool {
	for _, place := range k.lies.Partitions {
		if !k.lockFits(place.Lock, cores) {
			return false
		}
	}
	for _, place := range k.lies.Channels {
		if !k.lockFits(place.Lock, cores) {
			return false
		}
	}
	return true
}

// lockFits tells it of one lock.
func (k *Kernel) lockFits(at int, cores []api.CoreState) bool {
	words, e := k.m.Take(at, 2)
	if e != api.OK {
		return false
	}
	turn := words[1]
	out := words[0] - turn
	var taken []uint32 // each by how many turns it must wait
	for _, s := range cores {
		for i, ticket := range s.Tickets {
			if s.Chain[i] != at {
				continue
			}
			turns := ticket - turn
			has := i < s.Locks
			if turns >= out || has && turns > 0 || slices.Contains(taken, turns) {
				return false
			}
			taken = append(taken, turns)
		}
	}
	return uint32(len(taken)) == out
}

// between tells whether a number is one from the least to the most.
func between(n, least, most int) bool { return n >= least && n <= most }
