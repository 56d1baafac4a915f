package queue

import (
	"math"

	"bulkhead/api"
	"bulkhead/mem"
)

// How many words stand ahead of the places, and which of these they are.
const (
	stageHead  = 1 // how many
	stageCount = 0
	portHead   = 3 // first, how many, lost
	portFirst  = 0
	portCount  = 1
	portLost   = 2
)

// row is a stage or a port, its words taken out of the memory: what is done to it stands there only when it is laid back. A stage is a row that begins at the place 0 always.
type row struct {
	at, head     int
	words, depth int
	held         []uint32
}

// fits tells what is wrong ahead of all stages and ports: no memory, or a channel that may not be.
func fits(m *mem.Memory, words, depth int) api.Errno {
	if m == nil {
		return api.ErrNil
	}
	if words < 1 || words > api.MaxMessage || depth < 1 || depth > api.MaxDepth {
		return api.ErrArg
	}
	return api.OK
}

// take tells a row with so many words ahead of its places, of its form or not.
func take(m *mem.Memory, at, head, words, depth int) (row, api.Errno) {
	if e := fits(m, words, depth); e != api.OK {
		return row{}, e
	}
	held, e := m.Take(at, head+depth*(1+words))
	if e != api.OK {
		return row{}, e
	}
	return row{at: at, head: head, words: words, depth: depth, held: held}, api.OK
}

// look tells a row that is of its form.
func look(m *mem.Memory, at, head, words, depth int) (row, api.Errno) {
	r, e := take(m, at, head, words, depth)
	if e != api.OK {
		return row{}, e
	}
	if !r.right() {
		return row{}, api.ErrQueueForm
	}
	return r, api.OK
}

// lay writes the row back to where it was taken.
func (r row) lay(m *mem.Memory) api.Errno { return m.Lay(r.at, r.held) }

// first tells the word of the place at which the messages begin.
func (r row) first() uint32 {
	if r.head == stageHead {
		return 0
	}
	return r.held[portFirst]
}

// countAt tells which word of the row tells how many messages it holds.
func (r row) countAt() int {
	if r.head == stageHead {
		return stageCount
	}
	return portCount
}

// count tells the word of how many messages the row holds.
func (r row) count() uint32 { return r.held[r.countAt()] }

// size tells how many messages a row of its form holds.
func (r row) size() int { return int(r.count()) }

// full tells whether a row of its form has no place for one more message.
func (r row) full() bool { return r.size() == r.depth }

// place tells the words of the i-th place from the first one on, in the row itself. first must be a place.
func (r row) place(i int) []uint32 {
	n := (int(r.first()) + i) % r.depth
	from := r.head + n*(1+r.words)
	return r.held[from : from+1+r.words]
}

// right tells whether the row is of its form.
func (r row) right() bool {
	if r.first() >= uint32(r.depth) || r.count() > uint32(r.depth) {
		return false
	}
	if r.size() == 0 && r.first() != 0 {
		return false
	}
	for i := range r.depth {
		if !rightPlace(r.place(i), i < r.size()) {
			return false
		}
	}
	return true
}

// rightPlace tells whether these words of a place are a message, or, where there must be none, nothing.
func rightPlace(place []uint32, filled bool) bool {
	if !filled {
		return empty(place)
	}
	length := place[0]
	return length >= 1 && length < uint32(len(place)) && empty(place[1+length:])
}

// empty tells whether all of these words are 0.
func empty(words []uint32) bool {
	for _, w := range words {
		if w != 0 {
			return false
		}
	}
	return true
}

// message tells the i-th message, in room of its own.
func (r row) message(i int) []uint32 {
	place := r.place(i)
	out := make([]uint32, place[0])
	copy(out, place[1:])
	return out
}

// push lays a message behind those of a row that is not full.
func (r row) push(message []uint32) {
	place := r.place(r.size())
	place[0] = uint32(len(message))
	copy(place[1:], message)
	r.held[r.countAt()]++
}

// bring lays a message behind those of a port, or counts it as lost, if there is no place.
func (r row) bring(message []uint32) {
	if !r.full() {
		r.push(message)
		return
	}
	if r.held[portLost] < math.MaxUint32 {
		r.held[portLost]++
	}
}

// pop takes away the first message of a port that holds one.
func (r row) pop() {
	clear(r.place(0))
	r.held[portCount]--
	r.held[portFirst] = (r.held[portFirst] + 1) % uint32(r.depth)
	// A port without a message has one form alone, wherever its last one lay.
	if r.held[portCount] == 0 {
		r.held[portFirst] = 0
	}
}
