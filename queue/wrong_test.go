package queue_test

import (
	"slices"
	"testing"

	"bulkhead/api"
	"bulkhead/queue"
)

// The first and the last place of a memory, and one beside them, of each shape.
func TestPlaces(t *testing.T) {
	for words := 1; words <= api.MaxMessage; words++ {
		for depth := 1; depth <= api.MaxDepth; depth++ {
			edges(t, shape{words, depth})
		}
	}
}

// edges asks for a stage and a port at both ends of a memory.
func edges(t *testing.T, s shape) {
	t.Helper()
	const size = 20 * api.FrameWords
	m := memory(t, 20)
	last := size - s.stageSize()
	puts(t, m, last, s, []uint32{9}, true, api.OK)
	staged(t, m, last, s, 1, api.OK)
	puts(t, m, last+1, s, []uint32{9}, false, api.ErrMemAt)
	staged(t, m, last+1, s, 0, api.ErrMemAt)
	delivers(t, m, last+1, s, api.ErrMemAt, 0)
	delivers(t, m, last, s, api.OK, 0)
	looks(t, m, 0, s, []uint32{9}, api.OK)

	m = memory(t, 20)
	last = size - s.portSize()
	puts(t, m, 0, s, []uint32{8}, true, api.OK)
	delivers(t, m, 0, s, api.ErrMemAt, last+1)
	looks(t, m, last+1, s, nil, api.ErrMemAt)
	takes(t, m, last+1, s, false, api.ErrMemAt)
	counts(t, m, last+1, s, 0, 0, api.ErrMemAt)
	delivers(t, m, 0, s, api.OK, last)
	looks(t, m, last, s, []uint32{8}, api.OK)
	counts(t, m, last, s, 1, 0, api.OK)
	takes(t, m, last, s, true, api.OK)
}

// Places that are not there, and words and depths that may not be.
func TestWrongNumbers(t *testing.T) {
	m := memory(t, 20)
	for _, s := range shapes {
		for _, at := range wrongPlaces {
			refused(t, m, at, 0, s, api.ErrMemAt)
		}
	}
	for _, at := range []int{0, 4, 320, -1} {
		for _, words := range wrongWords {
			refused(t, m, at, 0, shape{words, 2}, api.ErrArg)
			refused(t, m, at, 0, shape{words, 9}, api.ErrArg)
		}
		for _, depth := range wrongDepths {
			refused(t, m, at, 0, shape{2, depth}, api.ErrArg)
			refused(t, m, at, 0, shape{16, depth}, api.ErrArg)
		}
	}
}

// R2: no memory is told ahead of all else.
func TestNilMemory(t *testing.T) {
	for _, s := range []shape{{2, 2}, {0, 2}, {2, 0}, {17, 9}} {
		for _, message := range [][]uint32{nil, {1}, rising(17, 1)} {
			puts(t, nil, -1, s, message, false, api.ErrNil)
			puts(t, nil, 0, s, message, false, api.ErrNil)
		}
		staged(t, nil, 0, s, 0, api.ErrNil)
		delivers(t, nil, 0, s, api.ErrNil)
		delivers(t, nil, -1, s, api.ErrNil, 10, -1)
		delivers(t, nil, 0, s, api.ErrNil, 10, 20, 30, 40, 50)
		looks(t, nil, 0, s, nil, api.ErrNil)
		takes(t, nil, 0, s, false, api.ErrNil)
		counts(t, nil, 0, s, 0, 0, api.ErrNil)
	}
}

// The order of Put's errors: the channel, the message, the place, the form; a full stage is asked last.
func TestPutOrder(t *testing.T) {
	s := shape{2, 2}
	for _, at := range []int{0, 20, 60, -1} {
		m := memory(t, 4)
		lay(t, m, 0, stageOf(s, letters(s, 2, 1))...)
		lay(t, m, 20, 3)
		before := m.Words()
		for _, message := range [][]uint32{nil, {}, {1, 2, 3}, rising(17, 0), rising(1000, 0)} {
			puts(t, m, at, shape{0, 2}, message, false, api.ErrArg)
			puts(t, m, at, shape{2, 9}, message, false, api.ErrArg)
			puts(t, m, at, s, message, false, api.ErrQueueWords)
		}
		stays(t, m, before)
	}
	m := marked(t, 4)
	puts(t, m, 57, s, []uint32{1}, false, api.ErrQueueForm)
	puts(t, m, 58, s, []uint32{1}, false, api.ErrMemAt)
	m = memory(t, 4)
	lay(t, m, 0, 2, 1, 5, 0, 2, 6, 7)
	puts(t, m, 0, s, []uint32{1}, false, api.OK)
	lay(t, m, 0, 2, 1, 5, 1, 2, 6, 7)
	puts(t, m, 0, s, []uint32{1}, false, api.ErrQueueForm)
}

// The order of Deliver's errors: the channel, the number of ports, all places, all forms.
func TestDeliverOrder(t *testing.T) {
	s := shape{2, 2}
	const fine, there, wrong, away = 0, 10, 30, 60
	m := memory(t, 4)
	lay(t, m, fine, stageOf(s, letters(s, 2, 1))...)
	lay(t, m, wrong, 3, 0, 0)
	before := m.Words()
	for _, stage := range []int{fine, wrong, away} {
		delivers(t, m, stage, shape{2, 0}, api.ErrArg, away, wrong, there, there, there)
		delivers(t, m, stage, shape{17, 2}, api.ErrArg, there)
		delivers(t, m, stage, s, api.ErrLong, 10, 20, 40, 50, 55)
		delivers(t, m, stage, s, api.ErrLong, away, wrong, away, wrong, away)
		delivers(t, m, stage, s, api.ErrLong, slices.Repeat([]int{there}, 1000)...)
		delivers(t, m, stage, s, api.ErrMemAt, wrong, away)
		delivers(t, m, stage, s, api.ErrMemAt, away, wrong)
		delivers(t, m, stage, s, api.ErrMemAt, there, 20, wrong, -1)
	}
	delivers(t, m, away, s, api.ErrMemAt, wrong)
	delivers(t, m, wrong, s, api.ErrQueueForm)
	delivers(t, m, wrong, s, api.ErrQueueForm, there)
	delivers(t, m, fine, s, api.ErrQueueForm, wrong)
	delivers(t, m, fine, s, api.ErrQueueForm, there, wrong)
	delivers(t, m, fine, s, api.ErrQueueForm, wrong, there)
	delivers(t, m, fine, s, api.ErrQueueForm, there, 19, 40, wrong)
	stays(t, m, before)
}

// R1: stages and ports that share words end all the same.
func TestShared(t *testing.T) {
	s := shape{2, 2}
	for stage := range 12 {
		for port := range 12 {
			m := memory(t, 2)
			puts(t, m, stage, s, []uint32{1, 2}, true, api.OK)
			for range 3 {
				for _, ports := range [][]int{{port}, {port, port}, {port, port + 1, stage}} {
					e := queue.Deliver(m, stage, s.words, s.depth, ports...)
					if e != api.OK && e != api.ErrQueueForm {
						t.Errorf("a stage at %d, ports at %d: error %d", stage, ports, e)
					}
				}
			}
		}
	}
}

// alphabet are the words of which small stages and ports are made.
var alphabet = []uint32{0, 1, 2, 3, top}

// alls goes through all lists of n words of the alphabet.
func alls(n int, yield func([]uint32)) {
	list := make([]uint32, n)
	var fill func(int)
	fill = func(i int) {
		if i == n {
			yield(list)
			return
		}
		for _, w := range alphabet {
			list[i] = w
			fill(i + 1)
		}
	}
	fill(0)
}

// messages makes all messages of the alphabet.
func messages(words int) [][]uint32 {
	var out [][]uint32
	for n := 1; n <= words; n++ {
		alls(n, func(l []uint32) { out = append(out, slices.Clone(l)) })
	}
	return out
}

// rows makes all rows of messages of the alphabet, up to the depth.
func rows(s shape) [][][]uint32 {
	out := [][][]uint32{nil}
	from := 0
	for range s.depth {
		to := len(out)
		for _, row := range out[from:to] {
			for _, message := range messages(s.words) {
				out = append(out, append(slices.Clone(row), message))
			}
		}
		from = to
	}
	return out
}

// key makes of a list a map's key.
func key(words []uint32) (k [8]uint32) {
	copy(k[:], words)
	return k
}

// The form of a stage: of all small lists of words just those are taken that some row of messages makes.
func TestStageForm(t *testing.T) {
	for _, s := range []shape{{1, 1}, {1, 2}, {2, 1}, {3, 1}, {1, 3}, {2, 2}} {
		right := map[[8]uint32]int{}
		for _, row := range rows(s) {
			right[key(stageOf(s, row))] = 1 + len(row)
		}
		m := memory(t, 2)
		alls(s.stageSize(), func(l []uint32) {
			lay(t, m, 3, l...)
			n := right[key(l)] - 1
			if n < 0 {
				staged(t, m, 3, s, 0, api.ErrQueueForm)
				puts(t, m, 3, s, []uint32{1}, false, api.ErrQueueForm)
				delivers(t, m, 3, s, api.ErrQueueForm, 16)
				lies(t, m, 3, l...)
				return
			}
			staged(t, m, 3, s, n, api.OK)
			puts(t, m, 3, s, []uint32{2}, n < s.depth, api.OK)
		})
	}
}

// The form of a port, likewise; lost may be any word.
func TestPortForm(t *testing.T) {
	for _, s := range []shape{{1, 1}, {1, 2}, {2, 1}, {3, 1}} {
		right := map[[8]uint32]int{}
		for _, row := range rows(s) {
			for first := range s.depth {
				for _, lost := range alphabet {
					if first == 0 || len(row) > 0 {
						right[key(portOf(s, first, lost, row))] = 1 + len(row)
					}
				}
			}
		}
		m := memory(t, 2)
		alls(s.portSize(), func(l []uint32) {
			lay(t, m, 10, l...)
			n := right[key(l)] - 1
			if n < 0 {
				counts(t, m, 10, s, 0, 0, api.ErrQueueForm)
				looks(t, m, 10, s, nil, api.ErrQueueForm)
				takes(t, m, 10, s, false, api.ErrQueueForm)
				delivers(t, m, 0, s, api.ErrQueueForm, 20, 10)
				lies(t, m, 10, l...)
				return
			}
			counts(t, m, 10, s, n, l[2], api.OK)
			takes(t, m, 10, s, n > 0, api.OK)
		})
	}
}

// A stage and a port of great shapes that are spoilt by one word, each in turn.
func TestSpoilt(t *testing.T) {
	for _, s := range shapes {
		for _, held := range []int{0, 1, s.depth - 1, s.depth} {
			first := min(held, 1) * (s.depth - 1)
			stage := stageOf(s, letters(s, held, 6))
			port := portOf(s, first, 0, letters(s, held, 6))
			spoil(t, s, stage, 1, false)
			spoil(t, s, port, 3, true)
		}
	}
}

// spoil lays words of their form, and makes each one that stands for no part of a message another one.
func spoil(t *testing.T, s shape, words []uint32, head int, port bool) {
	t.Helper()
	m := memory(t, 20)
	lay(t, m, 160, words...)
	for i, w := range words {
		if part(s, words, head, i) || port && i == 2 {
			continue
		}
		for _, other := range others(s, w, head, i) {
			m.Write(160+i, other)
			before := m.Words()
			if port {
				counts(t, m, 160, s, 0, 0, api.ErrQueueForm)
				delivers(t, m, 0, s, api.ErrQueueForm, 160)
			} else {
				staged(t, m, 160, s, 0, api.ErrQueueForm)
				delivers(t, m, 160, s, api.ErrQueueForm, 0)
			}
			stays(t, m, before)
		}
		m.Write(160+i, w)
	}
}

// others tells words that may not stand in the place of w, the i-th one of a stage or port: none that a byte or half a word would take for w, nor one above what it may be at most.
func others(s shape, w uint32, head, i int) []uint32 {
	out := []uint32{1<<8 + w, 1<<16 + w, 1<<31 + w, top}
	switch {
	case i < head:
		return append(out, uint32(s.depth)+1)
	case (i-head)%(1+s.words) == 0:
		return append(out, uint32(s.words)+1)
	}
	return append(out, 1)
}

// part tells whether a word is one of a message.
func part(s shape, words []uint32, head, i int) bool {
	if i < head {
		return false
	}
	in := (i - head) % (1 + s.words)
	return in > 0 && uint32(in) <= words[i-in]
}
