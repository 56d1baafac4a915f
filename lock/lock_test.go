package lock_test

import (
	"math"
	"slices"
	"testing"

	"bulkhead/api"
	"bulkhead/lock"
	"bulkhead/mem"
)

// The greatest word, which is also how many tickets may be out.
const top = uint32(0xffffffff)

// words of a lock from which and through which its two words are tried.
var edges = []uint32{0, 1, 2, 3, 1000, 1 << 16, 1<<31 - 1, 1 << 31, 1<<31 + 1, top - 2, top - 1, top}

// memory makes one of so many frames of zeros.
func memory(t *testing.T, frames int) *mem.Memory {
	t.Helper()
	m, e := mem.New(frames)
	if e != api.OK {
		t.Fatalf("mem.New(%d): error %d", frames, e)
	}
	return m
}

// marked makes a memory of one frame, each word of which is unlike the others, with a lock at a place.
func marked(t *testing.T, at int, next, turn uint32) *mem.Memory {
	t.Helper()
	m := memory(t, 1)
	for i := range 16 {
		m.Write(i, 0xabcd0000+uint32(i))
	}
	lay(t, m, at, next, turn)
	return m
}

// lay makes a lock's two words be these.
func lay(t *testing.T, m *mem.Memory, at int, next, turn uint32) {
	t.Helper()
	if e := m.Lay(at, []uint32{next, turn}); e != api.OK {
		t.Fatalf("Lay(%d): error %d", at, e)
	}
}

// lies asks for a lock's two words.
func lies(t *testing.T, m *mem.Memory, at int, next, turn uint32) {
	t.Helper()
	if got, e := m.Take(at, 2); e != api.OK || !slices.Equal(got, []uint32{next, turn}) {
		t.Errorf("the lock at %d: %x, want %x %x", at, got, next, turn)
	}
}

// stays asks that a memory has these words still.
func stays(t *testing.T, m *mem.Memory, want []uint32) {
	t.Helper()
	if got := m.Words(); !slices.Equal(got, want) {
		t.Errorf("the words %x, want %x", got, want)
	}
}

// takes asks for a ticket, and that Take gives it.
func takes(t *testing.T, m *mem.Memory, at int, want uint32, e api.Errno) {
	t.Helper()
	if got, f := lock.Take(m, at); got != want || f != e {
		t.Errorf("Take(%d): %x, error %d, want %x, error %d", at, got, f, want, e)
	}
}

// mine asks whether it is a ticket's turn.
func mine(t *testing.T, m *mem.Memory, at int, ticket uint32, want bool, e api.Errno) {
	t.Helper()
	if got, f := lock.Mine(m, at, ticket); got != want || f != e {
		t.Errorf("Mine(%d, %x): %v, error %d, want %v, error %d", at, ticket, got, f, want, e)
	}
}

// frees gives a lock back and asks for the error.
func frees(t *testing.T, m *mem.Memory, at int, ticket uint32, e api.Errno) {
	t.Helper()
	if f := lock.Free(m, at, ticket); f != e {
		t.Errorf("Free(%d, %x): error %d, want %d", at, ticket, f, e)
	}
}

// waits asks how many tickets are out.
func waits(t *testing.T, m *mem.Memory, at, want int, e api.Errno) {
	t.Helper()
	if got, f := lock.Waiting(m, at); got != want || f != e {
		t.Errorf("Waiting(%d): %d, error %d, want %d, error %d", at, got, f, want, e)
	}
}

// The chapter's examples of one lock, one behind the other.
func TestExamples(t *testing.T) {
	m := memory(t, 1)
	takes(t, m, 4, 0, api.OK)
	takes(t, m, 4, 1, api.OK)
	waits(t, m, 4, 2, api.OK)
	mine(t, m, 4, 0, true, api.OK)
	mine(t, m, 4, 1, false, api.OK)

	frees(t, m, 4, 1, api.ErrLockOrder)
	frees(t, m, 4, 0, api.OK)
	frees(t, m, 4, 1, api.OK)
	frees(t, m, 4, 2, api.ErrLockOrder)
	waits(t, m, 4, 0, api.OK)

	takes(t, m, 15, 0, api.ErrMemAt)
	takes(t, m, -1, 0, api.ErrMemAt)
	takes(t, nil, 0, 0, api.ErrNil)
	lies(t, m, 4, 2, 2)
}

// P17.1: what each call answers, and what it leaves, of any two words.
func TestAnyWords(t *testing.T) {
	if top != math.MaxUint32 {
		t.Fatal("the greatest word")
	}
	for _, next := range edges {
		for _, turn := range edges {
			takesOf(t, next, turn)
			waits(t, marked(t, 6, next, turn), 6, int((int64(next)-int64(turn)+1<<32)%(1<<32)), api.OK)
			for _, ticket := range append(edges, turn-1, turn+1, next-1, next+1) {
				m := marked(t, 6, next, turn)
				before := m.Words()
				mine(t, m, 6, ticket, ticket == turn, api.OK)
				stays(t, m, before)
				freesOf(t, next, turn, ticket)
			}
		}
	}
}

// takesOf takes a ticket of a lock with these words, and asks for all words behind that.
func takesOf(t *testing.T, next, turn uint32) {
	t.Helper()
	m := marked(t, 6, next, turn)
	want := m.Words()
	if next+1 == turn {
		takes(t, m, 6, 0, api.ErrLockOrder)
	} else {
		takes(t, m, 6, next, api.OK)
		want[6]++
	}
	stays(t, m, want)
}

// freesOf gives a lock with these words back by a ticket, and asks for all words behind that.
func freesOf(t *testing.T, next, turn, ticket uint32) {
	t.Helper()
	m := marked(t, 6, next, turn)
	want := m.Words()
	if next == turn || ticket != turn {
		frees(t, m, 6, ticket, api.ErrLockOrder)
	} else {
		frees(t, m, 6, ticket, api.OK)
		want[7]++
	}
	stays(t, m, want)
}

// P17.1: tickets go on behind the greatest word.
func TestRoundTheEnd(t *testing.T) {
	m := memory(t, 1)
	lay(t, m, 0, top-1, top-1)
	for _, want := range []uint32{top - 1, top, 0, 1} {
		takes(t, m, 0, want, api.OK)
	}
	waits(t, m, 0, 4, api.OK)
	for _, ticket := range []uint32{top - 1, top, 0, 1} {
		mine(t, m, 0, ticket, true, api.OK)
		frees(t, m, 0, ticket+1, api.ErrLockOrder)
		frees(t, m, 0, ticket, api.OK)
	}
	lies(t, m, 0, 2, 2)
}

// P17.1: the last ticket that may be out, and none behind it till one is given back.
func TestMostTickets(t *testing.T) {
	for _, turn := range edges {
		m := memory(t, 1)
		lay(t, m, 3, turn-2, turn)
		waits(t, m, 3, int(top)-1, api.OK)
		takes(t, m, 3, turn-2, api.OK)
		waits(t, m, 3, int(top), api.OK)
		takes(t, m, 3, 0, api.ErrLockOrder)
		takes(t, m, 3, 0, api.ErrLockOrder)
		lies(t, m, 3, turn-1, turn)
		frees(t, m, 3, turn, api.OK)
		takes(t, m, 3, turn-1, api.OK)
		takes(t, m, 3, 0, api.ErrLockOrder)
		lies(t, m, 3, turn, turn+1)
	}
}

// P17.1: both words must be there, or nothing is told and nothing is written.
func TestPlaces(t *testing.T) {
	for _, frames := range []int{1, 2, 1024} {
		m := memory(t, frames)
		m.Fill(0, 16*frames, 7)
		before := m.Words()
		for _, at := range []int{-1, -2, -16, 16*frames - 1, 16 * frames, 16*frames + 1, 1 << 32, 1<<32 - 1, math.MinInt, math.MinInt + 1, math.MaxInt, math.MaxInt - 1} {
			takes(t, m, at, 0, api.ErrMemAt)
			mine(t, m, at, 7, false, api.ErrMemAt)
			mine(t, m, at, 0, false, api.ErrMemAt)
			frees(t, m, at, 7, api.ErrMemAt)
			waits(t, m, at, 0, api.ErrMemAt)
		}
		stays(t, m, before)
		for _, at := range []int{0, 1, 7, 14, 16*frames - 2} {
			lay(t, m, at, 9, 8)
			takes(t, m, at, 9, api.OK)
			mine(t, m, at, 8, true, api.OK)
			frees(t, m, at, 8, api.OK)
			waits(t, m, at, 1, api.OK)
			lies(t, m, at, 10, 9)
		}
	}
}

// P17.6: a nil memory is told ahead of all else.
func TestNilMemory(t *testing.T) {
	for _, at := range []int{0, 4, 15, 16, -1, math.MinInt, math.MaxInt} {
		takes(t, nil, at, 0, api.ErrNil)
		mine(t, nil, at, 0, false, api.ErrNil)
		frees(t, nil, at, 0, api.ErrNil)
		waits(t, nil, at, 0, api.ErrNil)
	}
}

// Locks that lie apart do not know of one another.
func TestTwoLocks(t *testing.T) {
	m := memory(t, 1)
	takes(t, m, 0, 0, api.OK)
	takes(t, m, 2, 0, api.OK)
	takes(t, m, 2, 1, api.OK)
	frees(t, m, 0, 0, api.OK)
	lies(t, m, 0, 1, 1)
	lies(t, m, 2, 2, 0)
	waits(t, m, 4, 0, api.OK)
}
