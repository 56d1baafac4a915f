package audit

import (
	"bulkhead/api"
	"bulkhead/barrier"
	"bulkhead/boot"
	"bulkhead/layout"
	"bulkhead/lock"
	"bulkhead/mem"
	"bulkhead/queue"
	"bulkhead/sample"
)

// channelLocks is added to a channel's number where its lock is told: so it is not taken for a partition's.
const channelLocks = 16

// wholeConfig stands where a problem is of no partition and of no channel.
const wholeConfig = -1

// findings are the problems that have been found.
type findings []api.Problem

// note notes a problem at each of these places.
func (f *findings) note(kind, index int, places ...int) {
	for _, at := range places {
		*f = append(*f, api.Problem{Kind: kind, Index: index, At: at})
	}
}

// site is a memory that is looked at, with what it is held against.
type site struct {
	c     api.Config
	lies  api.Layout
	m     *mem.Memory
	first *mem.Memory // as boot.Boot lays it, without programs
}

// siteOf makes one of a configuration and a memory that fit.
func siteOf(c api.Config, m *mem.Memory) (site, api.Errno) {
	lies, e := layout.Of(c)
	if e != api.OK {
		return site{}, api.ErrArg
	}
	first, e, _ := boot.Boot(c, nil)
	if e != api.OK {
		return site{}, api.ErrArg
	}
	return site{c: c, lies: lies, m: m, first: first}, api.OK
}

// problems tells all of them, in the order in which they are told.
func (s site) problems() []api.Problem {
	var f findings
	f.note(api.ProblemBarrier, wholeConfig, s.wrongBarrier()...)
	for p, place := range s.lies.Partitions {
		f.note(api.ProblemLock, p, s.wrongLock(place.Lock, 1)...)
		f.note(api.ProblemState, p, s.wrongState(s.c.Partitions[p], place.State)...)
	}
	for n, place := range s.lies.Channels {
		h := s.c.Channels[n]
		f.note(api.ProblemLock, channelLocks+n, s.wrongLock(place.Lock, len(s.c.Cores))...)
		f.note(api.ProblemStage, n, s.wrongStage(h, place.Stage)...)
		f.note(api.ProblemPort, n, s.wrongPorts(h, place.Dests)...)
	}
	// The tables lie by rising partition, so the places come in the order in which they are told.
	for at := range s.m.Differ(s.first) {
		if s.isTable(at) {
			whose, _ := layout.Owner(s.c, at)
			f.note(api.ProblemTable, whose.Index, at)
		}
	}
	return f
}

// isTable tells whether a word is one of a root's or a table's: from the first root on there is nothing else.
func (s site) isTable(at int) bool {
	frame := at / api.FrameWords
	return frame >= s.lies.Partitions[0].Root && frame < s.lies.End
}

// wrongBarrier tells the barrier's place, if it is wrong.
func (s site) wrongBarrier() []int {
	v, e := barrier.Look(s.m, s.lies.Barrier)
	if e != api.OK || v.Come > len(s.c.Cores) || v.Epoch > api.MaxEpoch {
		return []int{s.lies.Barrier}
	}
	return nil
}

// wrongLock tells a lock's place, if more tickets are out than may be.
func (s site) wrongLock(at, most int) []int {
	if out, e := lock.Waiting(s.m, at); e != api.OK || out > most {
		return []int{at}
	}
	return nil
}

// wrongState tells the first word of a partition's state that is above its most.
func (s site) wrongState(p api.Partition, at int) []int {
	most := []uint32{api.StateHalted, uint32(p.Restarts), api.TrapCall, ^uint32(0), uint32(p.Outputs)}
	words, e := s.m.Take(at, len(most))
	if e != api.OK {
		return []int{at}
	}
	for i, w := range words {
		if w > most[i] {
			return []int{at + i}
		}
	}
	return nil
}

// wrongStage tells a stage's place, if it is not of its form: then nobody can tell how many messages it has.
func (s site) wrongStage(h api.Channel, at int) []int {
	var e api.Errno
	if h.Kind == api.KindSampling {
		_, e = sample.Staged(s.m, at, h.Words)
	} else {
		_, e = queue.Staged(s.m, at, h.Words, h.Depth)
	}
	if e != api.OK {
		return []int{at}
	}
	return nil
}

// wrongPorts tells the places of those ports of a channel that are not of their form: then nobody can tell what they hold.
func (s site) wrongPorts(h api.Channel, dests []api.DestPlace) []int {
	var wrong []int
	for _, d := range dests {
		var e api.Errno
		if h.Kind == api.KindSampling {
			_, _, _, e = sample.Read(s.m, d.At, h.Words)
		} else {
			_, _, e = queue.Count(s.m, d.At, h.Words, h.Depth)
		}
		if e != api.OK {
			wrong = append(wrong, d.At)
		}
	}
	return wrong
}
