package duct

import (
	"bulkhead/api"
	"bulkhead/mem"
	"bulkhead/queue"
	"bulkhead/sample"
)

// line is a channel of either kind: what calls do with the words of its stage and of its ports. A port is told by the number of its first word.
type line interface {
	room() int                                                                   // the most words of a message
	dests() []int                                                                // its ports, in layout's order
	put(m *mem.Memory, message []uint32) (bool, api.Errno)                       // false: there is no place on the stage
	staged(m *mem.Memory) (uint32, api.Errno)                                    // how many messages lie on the stage
	look(m *mem.Memory, port int) (message []uint32, beside uint32, e api.Errno) // no words: the port holds none
	holds(m *mem.Memory, port int) (two, three uint32, e api.Errno)              // how a port stands
	deliver(m *mem.Memory) api.Errno                                             // from the stage to all ports
}

// place is where a channel of either kind lies, and how long its messages are.
type place struct {
	stage, words int
	ports        []int
}

func (p place) room() int    { return p.words }
func (p place) dests() []int { return p.ports }

// sampling is a channel whose ports hold the last message.
type sampling struct{ place }

// queuing is a channel whose ports hold messages in a row.
type queuing struct {
	place
	depth int
}

// linesOf tells all channels, each where it lies.
func linesOf(c api.Config, l api.Layout) []line {
	out := make([]line, len(c.Channels))
	for n, h := range c.Channels {
		at := placeOf(h, l.Channels[n])
		if h.Kind == api.KindQueuing {
			out[n] = queuing{at, h.Depth}
		} else {
			out[n] = sampling{at}
		}
	}
	return out
}

// placeOf tells where a channel lies.
func placeOf(h api.Channel, lies api.ChannelPlace) place {
	out := place{stage: lies.Stage, words: h.Words}
	for _, dest := range lies.Dests {
		out.ports = append(out.ports, dest.At)
	}
	return out
}

func (s sampling) put(m *mem.Memory, message []uint32) (bool, api.Errno) {
	e := sample.Put(m, s.stage, s.words, message)
	return e == api.OK, e
}

func (s sampling) staged(m *mem.Memory) (uint32, api.Errno) {
	n, e := sample.Staged(m, s.stage, s.words)
	return uint32(n), e
}

func (s sampling) look(m *mem.Memory, port int) (message []uint32, beside uint32, e api.Errno) {
	message, fresh, _, e := sample.Read(m, port, s.words)
	return message, bit(fresh), e
}

func (s sampling) holds(m *mem.Memory, port int) (two, three uint32, e api.Errno) {
	_, fresh, there, e := sample.Read(m, port, s.words)
	return bit(there), bit(fresh), e
}

func (s sampling) deliver(m *mem.Memory) api.Errno {
	return sample.Deliver(m, s.stage, s.words, s.ports)
}

func (q queuing) put(m *mem.Memory, message []uint32) (bool, api.Errno) {
	return queue.Put(m, q.stage, q.words, q.depth, message)
}

func (q queuing) staged(m *mem.Memory) (uint32, api.Errno) {
	n, e := queue.Staged(m, q.stage, q.words, q.depth)
	return uint32(n), e
}

func (q queuing) look(m *mem.Memory, port int) (message []uint32, beside uint32, e api.Errno) {
	held, _, e := queue.Count(m, port, q.words, q.depth)
	if e != api.OK || held == 0 {
		return nil, 0, e
	}
	message, _, e = queue.Look(m, port, q.words, q.depth)
	return message, uint32(held - 1), e
}

func (q queuing) holds(m *mem.Memory, port int) (two, three uint32, e api.Errno) {
	held, lost, e := queue.Count(m, port, q.words, q.depth)
	return uint32(held), lost, e
}

func (q queuing) deliver(m *mem.Memory) api.Errno {
	return queue.Deliver(m, q.stage, q.words, q.depth, q.ports...)
}

// takeAway takes the first message of a port away, where that is a queue's: what a sampling port holds stays.
func takeAway(m *mem.Memory, l line, port int) api.Errno {
	switch l := l.(type) {
	case queuing:
		_, e := queue.Take(m, port, l.words, l.depth)
		return e
	default:
		return api.OK
	}
}

// sound tells the error with which a channel's Deliver would be refused. Its words are all there and lie apart, as layout deals them, so that their forms are all that can be wrong.
func sound(m *mem.Memory, l line) api.Errno {
	if _, e := l.staged(m); e != api.OK {
		return e
	}
	for _, port := range l.dests() {
		if _, _, e := l.holds(m, port); e != api.OK {
			return e
		}
	}
	return api.OK
}

// bit tells a word that says whether something is so.
func bit(is bool) uint32 {
	if is {
		return 1
	}
	return 0
}
