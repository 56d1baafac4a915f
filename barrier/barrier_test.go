package barrier_test

import (
	"math"
	"slices"
	"testing"

	"bulkhead/api"
	"bulkhead/barrier"
	"bulkhead/mem"
)

// The greatest word.
const top = uint32(0xffffffff)

// words that a barrier's two words are tried with: about the numbers of cores, and about where words wrap round or would be negative.
var edges = []uint32{0, 1, 2, 3, 4, 5, 6, 255, 256, 1 << 16, 1<<16 + 1, 1<<31 - 1, 1 << 31, 1<<31 + 1, top - 1, top}

// numbers of cores that may not be.
var wrongCores = []int{0, 5, -1, -4, 6, 16, 256, 257, 1 << 31, 1 << 32, 1<<32 + 1, 1<<32 + 4, math.MinInt, math.MaxInt}

// memory makes one of so many frames of zeros.
func memory(t *testing.T, frames int) *mem.Memory {
	t.Helper()
	m, e := mem.New(frames)
	if e != api.OK {
		t.Fatalf("mem.New(%d): error %d", frames, e)
	}
	return m
}

// marked makes a memory of one frame, each word of which is unlike the others, with a barrier at a place.
func marked(t *testing.T, at int, come, epoch uint32) *mem.Memory {
	t.Helper()
	m := memory(t, 1)
	for i := range 16 {
		m.Write(i, 0xabcd0000+uint32(i))
	}
	if e := m.Lay(at, []uint32{come, epoch}); e != api.OK {
		t.Fatalf("Lay(%d): error %d", at, e)
	}
	return m
}

// lies asks for a barrier's two words.
func lies(t *testing.T, m *mem.Memory, at int, come, epoch uint32) {
	t.Helper()
	if got, e := m.Take(at, 2); e != api.OK || !slices.Equal(got, []uint32{come, epoch}) {
		t.Errorf("the barrier at %d: %x, want %x %x", at, got, come, epoch)
	}
}

// stays asks that a memory has these words.
func stays(t *testing.T, m *mem.Memory, want []uint32) {
	t.Helper()
	if got := m.Words(); !slices.Equal(got, want) {
		t.Errorf("the words %x, want %x", got, want)
	}
}

// looks asks how a barrier stands.
func looks(t *testing.T, m *mem.Memory, at int, want barrier.View, e api.Errno) {
	t.Helper()
	if got, f := barrier.Look(m, at); got != want || f != e {
		t.Errorf("Look(%d): %v, error %d, want %v, error %d", at, got, f, want, e)
	}
}

// comes lets one come, and asks whether it is the last one.
func comes(t *testing.T, m *mem.Memory, at, cores int, want bool, e api.Errno) {
	t.Helper()
	if got, f := barrier.Come(m, at, cores); got != want || f != e {
		t.Errorf("Come(%d, %d): %v, error %d, want %v, error %d", at, cores, got, f, want, e)
	}
}

// opens opens a barrier, and asks for the error.
func opens(t *testing.T, m *mem.Memory, at, cores int, e api.Errno) {
	t.Helper()
	if f := barrier.Open(m, at, cores); f != e {
		t.Errorf("Open(%d, %d): error %d, want %d", at, cores, f, e)
	}
}

// The chapter's examples, row by row.
func TestExamples(t *testing.T) {
	m := memory(t, 1)
	looks(t, m, 2, barrier.View{}, api.OK)
	lies(t, m, 2, 0, 0)

	comes(t, m, 2, 2, false, api.OK)
	opens(t, m, 2, 2, api.ErrBarrierShort)
	lies(t, m, 2, 1, 0)

	comes(t, m, 2, 2, true, api.OK)
	comes(t, m, 2, 2, false, api.ErrBarrierFull)
	lies(t, m, 2, 2, 0)

	opens(t, m, 2, 1, api.ErrBarrierFull)
	opens(t, m, 2, 2, api.OK)
	lies(t, m, 2, 0, 1)

	comes(t, m, 2, 1, true, api.OK)
	opens(t, m, 2, 1, api.OK)
	lies(t, m, 2, 0, 2)

	comes(t, m, 2, 0, false, api.ErrBarrierCores)
	comes(t, m, 2, 5, false, api.ErrBarrierCores)
	opens(t, m, 2, 0, api.ErrBarrierCores)
	lies(t, m, 2, 0, 2)

	looks(t, m, 15, barrier.View{}, api.ErrMemAt)
	looks(t, m, -1, barrier.View{}, api.ErrMemAt)
	comes(t, m, 15, 9, false, api.ErrMemAt)
	looks(t, nil, 2, barrier.View{}, api.ErrNil)

	want := make([]uint32, 16)
	want[3] = 2
	stays(t, m, want)
}

// P18.1: any two words are told as numbers from 0 on, and nothing is written.
func TestLook(t *testing.T) {
	for _, come := range edges {
		for _, epoch := range edges {
			m := marked(t, 6, come, epoch)
			before := m.Words()
			looks(t, m, 6, barrier.View{Come: int(come), Epoch: int(epoch)}, api.OK)
			stays(t, m, before)
		}
	}
}

// P18.2, P18.4: what Come answers of any two words, and all words behind that.
func TestCome(t *testing.T) {
	for cores := 1; cores <= api.MaxCores; cores++ {
		for _, come := range edges {
			for _, epoch := range edges {
				m := marked(t, 6, come, epoch)
				want := m.Words()
				if int(come) < cores {
					comes(t, m, 6, cores, int(come) == cores-1, api.OK)
					want[6]++
				} else {
					comes(t, m, 6, cores, false, api.ErrBarrierFull)
				}
				stays(t, m, want)
			}
		}
	}
}

// P18.3, P18.4: what Open answers of any two words, and all words behind that.
func TestOpen(t *testing.T) {
	for cores := 1; cores <= api.MaxCores; cores++ {
		for _, come := range edges {
			for _, epoch := range edges {
				m := marked(t, 6, come, epoch)
				want := m.Words()
				switch {
				case int(come) < cores:
					opens(t, m, 6, cores, api.ErrBarrierShort)
				case int(come) > cores:
					opens(t, m, 6, cores, api.ErrBarrierFull)
				default:
					opens(t, m, 6, cores, api.OK)
					want[6] = 0
					want[7]++
				}
				stays(t, m, want)
			}
		}
	}
}

// P18.3: behind the greatest epoch comes 0, and the word behind the barrier is not carried over to.
func TestRoundTheEnd(t *testing.T) {
	m := memory(t, 1)
	m.Lay(4, []uint32{0, top - 1})
	for _, epoch := range []uint32{top, 0, 1} {
		comes(t, m, 4, 2, false, api.OK)
		comes(t, m, 4, 2, true, api.OK)
		opens(t, m, 4, 2, api.OK)
		looks(t, m, 4, barrier.View{Epoch: int(epoch)}, api.OK)
	}
	want := make([]uint32, 16)
	want[5] = 1
	stays(t, m, want)
}

// A number of cores that may not be is told ahead of how many have come, and nothing is written.
func TestWrongCores(t *testing.T) {
	for _, cores := range wrongCores {
		for _, come := range edges {
			m := marked(t, 6, come, 9)
			before := m.Words()
			comes(t, m, 6, cores, false, api.ErrBarrierCores)
			opens(t, m, 6, cores, api.ErrBarrierCores)
			stays(t, m, before)
		}
	}
}

// Both words must be there, or nothing is told and nothing is written, whatever the number of cores.
func TestPlaces(t *testing.T) {
	for _, frames := range []int{1, 2, 1024} {
		m := memory(t, frames)
		m.Fill(0, 16*frames, 1)
		before := m.Words()
		for _, at := range []int{-1, -2, -16, 16*frames - 1, 16 * frames, 16*frames + 1, 1<<32 - 1, 1 << 32, math.MinInt, math.MinInt + 1, math.MaxInt - 1, math.MaxInt} {
			looks(t, m, at, barrier.View{}, api.ErrMemAt)
			for _, cores := range append([]int{1, 2, 4}, wrongCores...) {
				comes(t, m, at, cores, false, api.ErrMemAt)
				opens(t, m, at, cores, api.ErrMemAt)
			}
		}
		stays(t, m, before)
		for _, at := range []int{0, 1, 7, 14, 16*frames - 2} {
			m.Lay(at, []uint32{1, 8})
			comes(t, m, at, 2, true, api.OK)
			lies(t, m, at, 2, 8)
			opens(t, m, at, 2, api.OK)
			looks(t, m, at, barrier.View{Epoch: 9}, api.OK)
		}
	}
}

// A nil memory is told ahead of all else.
func TestNilMemory(t *testing.T) {
	for _, at := range []int{0, 2, 15, 16, -1, math.MinInt, math.MaxInt} {
		looks(t, nil, at, barrier.View{}, api.ErrNil)
		for _, cores := range append([]int{1, 2, 4}, wrongCores...) {
			comes(t, nil, at, cores, false, api.ErrNil)
			opens(t, nil, at, cores, api.ErrNil)
		}
	}
}
