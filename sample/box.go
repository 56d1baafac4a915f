package sample

import (
	"bulkhead/api"
	"bulkhead/mem"
)

// How many words stand ahead of the message, and which one of a port tells whether it is fresh.
const (
	stageHead = 2 // there, the length
	portHead  = 3 // there, fresh, the length
	freshAt   = 1
)

// box is where a stage or a port lies: its first word, how many stand ahead of the message, the most words of that. The length is the last one of the head; those ahead of it are marks, 0 or 1.
type box struct{ at, head, words int }

// stageAt is the stage at a place.
func stageAt(at, words int) box { return box{at: at, head: stageHead, words: words} }

// portAt is the port at a place.
func portAt(at, words int) box { return box{at: at, head: portHead, words: words} }

// size tells how many words a box has.
func (b box) size() int { return b.head + b.words }

// take tells the words of a box, right or not. A nil memory is told ahead of all else.
func (b box) take(m *mem.Memory) ([]uint32, api.Errno) {
	if m == nil {
		return nil, api.ErrNil
	}
	if b.words < 1 || b.words > api.MaxMessage {
		return nil, api.ErrArg
	}
	return m.Take(b.at, b.size())
}

// look tells the words of a box that is right.
func (b box) look(m *mem.Memory) ([]uint32, api.Errno) {
	held, e := b.take(m)
	if e != api.OK {
		return nil, e
	}
	if !b.right(held) {
		return nil, api.ErrSampleForm
	}
	return held, api.OK
}

// right tells whether these words of a box are a message, or none.
func (b box) right(held []uint32) bool {
	if held[0] == 0 {
		return empty(held)
	}
	for _, mark := range held[1 : b.head-1] {
		if mark > 1 {
			return false
		}
	}
	length := held[b.head-1]
	if held[0] != 1 || length < 1 || length > uint32(b.words) {
		return false
	}
	return empty(held[b.head+int(length):])
}

// empty tells whether all of these words are 0.
func empty(words []uint32) bool {
	for _, w := range words {
		if w != 0 {
			return false
		}
	}
	return true
}

// message takes the message out of a right box's words, into room of its own.
func (b box) message(held []uint32) []uint32 {
	out := make([]uint32, held[b.head-1])
	copy(out, held[b.head:])
	return out
}

// filled tells the words of a box that holds this message, and holds it newly: all marks are 1.
func (b box) filled(message []uint32) []uint32 {
	out := make([]uint32, b.size())
	for i := range b.head - 1 {
		out[i] = 1
	}
	out[b.head-1] = uint32(len(message))
	copy(out[b.head:], message)
	return out
}

// meets tells whether two boxes, the words of which are there, have a word in common.
func (b box) meets(other box) bool {
	return b.at < other.at+other.size() && other.at < b.at+b.size()
}
