package queue_test

import (
	"math"
	"slices"
	"testing"

	"bulkhead/api"
	"bulkhead/mem"
	"bulkhead/queue"
)

// The greatest word.
const top = uint32(0xffffffff)

// numbers of words and depths that no channel has.
var (
	wrongWords  = []int{0, 17, -1, -16, 18, 256, 1 << 31, 1<<32 + 1, 1<<32 + 2, math.MinInt, math.MinInt + 2, math.MaxInt, math.MaxInt - 1}
	wrongDepths = []int{0, 9, -1, -8, 10, 256, 1 << 31, 1<<32 + 1, 1<<32 + 2, math.MinInt, math.MinInt + 2, math.MaxInt, math.MaxInt - 1}
)

// places that no memory has.
var wrongPlaces = []int{-1, -2, -5, -16, -140, 1 << 14, 1 << 31, 1 << 32, 1<<32 + 1, math.MinInt, math.MinInt + 1, math.MaxInt, math.MaxInt - 1, math.MaxInt - 138}

// shape is a channel's Words and Depth.
type shape struct{ words, depth int }

// stageSize and portSize tell how many words they take.
func (s shape) stageSize() int { return 1 + s.depth*(1+s.words) }
func (s shape) portSize() int  { return 3 + s.depth*(1+s.words) }

// shapes are those that are gone through where each would take too long.
var shapes = []shape{{1, 1}, {1, 2}, {1, 8}, {2, 1}, {2, 2}, {2, 3}, {3, 4}, {5, 7}, {16, 1}, {16, 8}}

// memory makes one of so many frames of zeros.
func memory(t *testing.T, frames int) *mem.Memory {
	t.Helper()
	m, e := mem.New(frames)
	if e != api.OK {
		t.Fatalf("mem.New(%d): error %d", frames, e)
	}
	return m
}

// marked makes a memory of so many frames, each word of which is unlike the others and none of which is of a form at any place.
func marked(t *testing.T, frames int) *mem.Memory {
	t.Helper()
	m := memory(t, frames)
	for i := range frames * api.FrameWords {
		m.Write(i, 0xabcd0000+uint32(i))
	}
	return m
}

// lay lays words down.
func lay(t *testing.T, m *mem.Memory, at int, words ...uint32) {
	t.Helper()
	if e := m.Lay(at, words); e != api.OK {
		t.Fatalf("Lay(%d): error %d", at, e)
	}
}

// lies asks for the words from a place on.
func lies(t *testing.T, m *mem.Memory, at int, want ...uint32) {
	t.Helper()
	if got, e := m.Take(at, len(want)); e != api.OK || !slices.Equal(got, want) {
		t.Errorf("the words from %d on: %x, error %d, want %x", at, got, e, want)
	}
}

// stays asks that a memory has these words.
func stays(t *testing.T, m *mem.Memory, want []uint32) {
	t.Helper()
	if got := m.Words(); !slices.Equal(got, want) {
		t.Errorf("the words %x, want %x", got, want)
	}
}

// puts puts a message, and asks for the answer.
func puts(t *testing.T, m *mem.Memory, stage int, s shape, message []uint32, want bool, e api.Errno) {
	t.Helper()
	if got, f := queue.Put(m, stage, s.words, s.depth, message); got != want || f != e {
		t.Errorf("Put(%d, %v, %x): %v, error %d, want %v, error %d", stage, s, message, got, f, want, e)
	}
}

// staged asks how many messages lie on a stage.
func staged(t *testing.T, m *mem.Memory, stage int, s shape, want int, e api.Errno) {
	t.Helper()
	if got, f := queue.Staged(m, stage, s.words, s.depth); got != want || f != e {
		t.Errorf("Staged(%d, %v): %d, error %d, want %d, error %d", stage, s, got, f, want, e)
	}
}

// delivers delivers, and asks for the error.
func delivers(t *testing.T, m *mem.Memory, stage int, s shape, e api.Errno, ports ...int) {
	t.Helper()
	if f := queue.Deliver(m, stage, s.words, s.depth, ports...); f != e {
		t.Errorf("Deliver(%d, %v, %d): error %d, want %d", stage, s, ports, f, e)
	}
}

// looks asks for a port's first message, of no words, if it must hold none.
func looks(t *testing.T, m *mem.Memory, port int, s shape, want []uint32, e api.Errno) {
	t.Helper()
	got, there, f := queue.Look(m, port, s.words, s.depth)
	if !slices.Equal(got, want) || there != (len(want) > 0) || f != e {
		t.Errorf("Look(%d, %v): %x, %v, error %d, want %x, error %d", port, s, got, there, f, want, e)
	}
}

// takes takes a port's first message away, and asks for the answer.
func takes(t *testing.T, m *mem.Memory, port int, s shape, want bool, e api.Errno) {
	t.Helper()
	if got, f := queue.Take(m, port, s.words, s.depth); got != want || f != e {
		t.Errorf("Take(%d, %v): %v, error %d, want %v, error %d", port, s, got, f, want, e)
	}
}

// counts asks how many messages a port holds and has lost.
func counts(t *testing.T, m *mem.Memory, port int, s shape, held int, lost uint32, e api.Errno) {
	t.Helper()
	if got, gone, f := queue.Count(m, port, s.words, s.depth); got != held || gone != lost || f != e {
		t.Errorf("Count(%d, %v): %d, %d, error %d, want %d, %d, error %d", port, s, got, gone, f, held, lost, e)
	}
}

// refused asks that all calls at one place answer an error, and change nothing. at0 is a place at which a stage and a port are of their form.
func refused(t *testing.T, m *mem.Memory, at, at0 int, s shape, want api.Errno) {
	t.Helper()
	before := m.Words()
	puts(t, m, at, s, []uint32{1}, false, want)
	staged(t, m, at, s, 0, want)
	delivers(t, m, at, s, want)
	delivers(t, m, at, s, want, at0)
	delivers(t, m, at0, s, want, at)
	delivers(t, m, at0, s, want, at0, at)
	looks(t, m, at, s, nil, want)
	takes(t, m, at, s, false, want)
	counts(t, m, at, s, 0, 0, want)
	stays(t, m, before)
}

// rising makes n words that are unlike one another.
func rising(n int, from uint32) []uint32 {
	out := make([]uint32, n)
	for i := range out {
		out[i] = from + uint32(i)
	}
	return out
}

// letters makes n messages of different lengths and words.
func letters(s shape, n int, from uint32) [][]uint32 {
	var out [][]uint32
	for i := range n {
		out = append(out, rising(1+(i+int(from))%s.words, from+100*uint32(i)))
	}
	return out
}

// places makes the words of all places, the messages from the place first on, round.
func places(s shape, first int, messages [][]uint32) []uint32 {
	out := make([]uint32, s.depth*(1+s.words))
	for i, message := range messages {
		at := (first + i) % s.depth * (1 + s.words)
		out[at] = uint32(len(message))
		copy(out[at+1:], message)
	}
	return out
}

// stageOf makes the words of a stage with these messages.
func stageOf(s shape, messages [][]uint32) []uint32 {
	return append([]uint32{uint32(len(messages))}, places(s, 0, messages)...)
}

// portOf makes the words of a port with these messages from a place on.
func portOf(s shape, first int, lost uint32, messages [][]uint32) []uint32 {
	return append([]uint32{uint32(first), uint32(len(messages)), lost}, places(s, first, messages)...)
}

// The chapter's examples, row by row.
func TestExamples(t *testing.T) {
	m := memory(t, 4)
	s := shape{2, 2}
	puts(t, m, 0, s, []uint32{5}, true, api.OK)
	lies(t, m, 0, 1, 1, 5, 0, 0, 0, 0)
	puts(t, m, 0, s, []uint32{6, 7}, true, api.OK)
	lies(t, m, 0, 2, 1, 5, 0, 2, 6, 7)
	puts(t, m, 0, s, []uint32{8}, false, api.OK)
	lies(t, m, 0, 2, 1, 5, 0, 2, 6, 7)
	puts(t, m, 0, s, nil, false, api.ErrQueueWords)
	puts(t, m, 0, s, []uint32{}, false, api.ErrQueueWords)
	puts(t, m, 0, s, []uint32{1, 2, 3}, false, api.ErrQueueWords)
	lies(t, m, 0, 2, 1, 5, 0, 2, 6, 7, 0, 0, 0)

	delivers(t, m, 0, s, api.OK, 10)
	lies(t, m, 0, 0, 0, 0, 0, 0, 0, 0, 0, 0, 0, 0, 2, 0, 1, 5, 0, 2, 6, 7, 0)
	puts(t, m, 0, s, []uint32{9}, true, api.OK)
	delivers(t, m, 0, s, api.OK, 10)
	counts(t, m, 10, s, 2, 1, api.OK)
	looks(t, m, 10, s, []uint32{5}, api.OK)
	takes(t, m, 10, s, true, api.OK)
	lies(t, m, 10, 1, 1, 1, 0, 0, 0, 2, 6, 7, 0)

	puts(t, m, 0, s, []uint32{3}, true, api.OK)
	delivers(t, m, 0, s, api.OK, 10)
	lies(t, m, 10, 1, 2, 1, 1, 3, 0, 2, 6, 7, 0)
	takes(t, m, 10, s, true, api.OK)
	lies(t, m, 10, 0, 1, 1, 1, 3, 0, 0, 0, 0, 0)
	takes(t, m, 10, s, true, api.OK)
	takes(t, m, 10, s, false, api.OK)
	lies(t, m, 10, 0, 0, 1, 0, 0, 0, 0, 0, 0, 0)

	looks(t, m, 60, s, nil, api.ErrMemAt)
	looks(t, m, -1, s, nil, api.ErrMemAt)
	looks(t, m, 10, shape{17, 2}, nil, api.ErrArg)
	looks(t, m, 10, shape{2, 9}, nil, api.ErrArg)
	m.Write(10, 2)
	counts(t, m, 10, s, 0, 0, api.ErrQueueForm)
}

// P20.1: a stage of each shape is filled message by message, of each length in turn; one more is not taken, and no word around it is written.
func TestPut(t *testing.T) {
	for words := 1; words <= api.MaxMessage; words++ {
		for depth := 1; depth <= api.MaxDepth; depth++ {
			for from := range uint32(words) {
				fill(t, shape{words, depth}, from)
			}
		}
	}
}

// fill fills a stage with messages, and asks for all words behind each one.
func fill(t *testing.T, s shape, from uint32) {
	t.Helper()
	at := 5
	m := marked(t, 10)
	lay(t, m, at, make([]uint32, s.stageSize())...)
	want := m.Words()
	all := letters(s, s.depth, from)
	for i, message := range all {
		staged(t, m, at, s, i, api.OK)
		puts(t, m, at, s, message, true, api.OK)
		copy(want[at:], stageOf(s, all[:i+1]))
		stays(t, m, want)
	}
	for n := 1; n <= s.words; n++ {
		puts(t, m, at, s, rising(n, 7), false, api.OK)
	}
	staged(t, m, at, s, s.depth, api.OK)
	stays(t, m, want)
}

// P20.1, P20.3: a message of zeros is one, and one of the greatest words too.
func TestAnyWords(t *testing.T) {
	m := memory(t, 2)
	s := shape{3, 2}
	puts(t, m, 0, s, []uint32{0, 0}, true, api.OK)
	puts(t, m, 0, s, []uint32{top, 1 << 31, top}, true, api.OK)
	lies(t, m, 0, 2, 2, 0, 0, 0, 3, top, 1<<31, top)
	staged(t, m, 0, s, 2, api.OK)
	delivers(t, m, 0, s, api.OK, 9)
	lies(t, m, 0, 0, 0, 0, 0, 0, 0, 0, 0, 0, 0, 2, 0, 2, 0, 0, 0, 3, top, 1<<31, top)
	looks(t, m, 9, s, []uint32{0, 0}, api.OK)
	takes(t, m, 9, s, true, api.OK)
	looks(t, m, 9, s, []uint32{top, 1 << 31, top}, api.OK)
	lies(t, m, 9, 1, 1, 0, 0, 0, 0, 0, 3, top, 1<<31, top)
}

// P20.2: each number of staged messages to a port that begins at each place and holds each number of them; what finds no place is lost.
func TestDeliver(t *testing.T) {
	for _, s := range shapes {
		for first := range s.depth {
			for held := range s.depth + 1 {
				for n := range s.depth + 1 {
					if held > 0 || first == 0 {
						delivery(t, s, first, held, n)
					}
				}
			}
		}
	}
}

// delivery brings n messages to two ports: one that holds some from first on, and an empty one.
func delivery(t *testing.T, s shape, first, held, n int) {
	t.Helper()
	stage, full, free, beside := 400, 1, 150, 600
	m := marked(t, 50)
	old, fresh := letters(s, held, 3), letters(s, n, 5000)
	lay(t, m, stage, stageOf(s, fresh)...)
	lay(t, m, full, portOf(s, first, 7, old)...)
	lay(t, m, free, portOf(s, 0, 0, nil)...)
	lay(t, m, beside, portOf(s, 0, 9, letters(s, 1, 1))...)
	want := m.Words()
	delivers(t, m, stage, s, api.OK, full, free)
	room := min(n, s.depth-held)
	clear(want[stage : stage+s.stageSize()])
	copy(want[full:], portOf(s, first, 7+uint32(n-room), slices.Concat(old, fresh[:room])))
	copy(want[free:], portOf(s, 0, 0, fresh))
	stays(t, m, want)
	staged(t, m, stage, s, 0, api.OK)
	counts(t, m, full, s, held+room, 7+uint32(n-room), api.OK)
	counts(t, m, free, s, n, 0, api.OK)
}

// P20.2: each number of ports, in any order, each alike; those that are not named stay, and without a port the stage is empty all the same.
func TestDeliverMany(t *testing.T) {
	ports := []int{90, 20, 150, 50, 120}
	s := shape{2, 3}
	for n := range api.MaxDests + 1 {
		m := marked(t, 12)
		all := letters(s, 3, 4)
		lay(t, m, 0, stageOf(s, all)...)
		for _, at := range ports {
			lay(t, m, at, portOf(s, 2, 1, letters(s, 1, 70))...)
		}
		want := m.Words()
		delivers(t, m, 0, s, api.OK, ports[:n]...)
		clear(want[:s.stageSize()])
		for _, at := range ports[:n] {
			copy(want[at:], portOf(s, 2, 2, append(letters(s, 1, 70), all[:2]...)))
		}
		stays(t, m, want)
		delivers(t, m, 0, s, api.OK, ports[:n]...)
		stays(t, m, want)
	}
}

// P20.2: the count of lost messages stays at its end.
func TestLostEnds(t *testing.T) {
	s := shape{1, 3}
	for _, c := range []struct {
		lost, want uint32
	}{{0, 3}, {1<<31 - 2, 1<<31 + 1}, {top - 4, top - 1}, {top - 3, top}, {top - 2, top}, {top - 1, top}, {top, top}} {
		m := memory(t, 2)
		lay(t, m, 0, stageOf(s, letters(s, 3, 1))...)
		lay(t, m, 10, portOf(s, 1, c.lost, letters(s, 3, 50))...)
		delivers(t, m, 0, s, api.OK, 10)
		lies(t, m, 10, portOf(s, 1, c.want, letters(s, 3, 50))...)
		counts(t, m, 10, s, 3, c.want, api.OK)
		for i := range 3 {
			takes(t, m, 10, s, true, api.OK)
			counts(t, m, 10, s, 2-i, c.want, api.OK)
		}
		takes(t, m, 10, s, false, api.OK)
		lies(t, m, 10, portOf(s, 0, c.want, nil)...)
	}
}

// P20.3: a port that begins at each place and holds each number is looked at and emptied, message by message.
func TestTake(t *testing.T) {
	for _, s := range shapes {
		for first := range s.depth {
			for held := 1; held <= s.depth; held++ {
				drain(t, s, first, held)
			}
		}
	}
}

// drain takes all messages of a port away, and asks for all words behind each one.
func drain(t *testing.T, s shape, first, held int) {
	t.Helper()
	at := 6
	m := marked(t, 10)
	all := letters(s, held, 9)
	lay(t, m, at, portOf(s, first, 4, all)...)
	want := m.Words()
	for i, message := range all {
		looks(t, m, at, s, message, api.OK)
		counts(t, m, at, s, held-i, 4, api.OK)
		stays(t, m, want)
		takes(t, m, at, s, true, api.OK)
		next := (first + i + 1) % s.depth
		if i+1 == held {
			next = 0
		}
		copy(want[at:], portOf(s, next, 4, all[i+1:]))
		stays(t, m, want)
	}
	looks(t, m, at, s, nil, api.OK)
	counts(t, m, at, s, 0, 4, api.OK)
	takes(t, m, at, s, false, api.OK)
	stays(t, m, want)
}

// R5: a message and a list of ports are neither changed nor kept, the room behind their ends neither; what Look answers is the caller's own.
func TestGivenStays(t *testing.T) {
	m := memory(t, 3)
	s := shape{4, 2}
	room := []uint32{4, 5, 6, 7}
	puts(t, m, 0, s, room[:2], true, api.OK)
	room[0] = 40
	lies(t, m, 0, 1, 2, 4, 5, 0, 0)
	ports := []int{11, 30, 77, 78}
	delivers(t, m, 0, s, api.OK, ports[:2]...)
	if !slices.Equal(room, []uint32{40, 5, 6, 7}) || !slices.Equal(ports, []int{11, 30, 77, 78}) {
		t.Errorf("what was given: %d, %d", room, ports)
	}
	got, _, _ := queue.Look(m, 11, s.words, s.depth)
	if len(got) != 2 {
		t.Fatalf("a message of %d words", len(got))
	}
	for _, l := range [][]uint32{got, got[:cap(got)]} {
		for i := range l {
			l[i] = 99
		}
	}
	looks(t, m, 11, s, []uint32{4, 5}, api.OK)
	looks(t, m, 30, s, []uint32{4, 5}, api.OK)
	takes(t, m, 11, s, true, api.OK)
	looks(t, m, 30, s, []uint32{4, 5}, api.OK)
}
