package sample_test

import (
	"math"
	"slices"
	"testing"

	"bulkhead/api"
	"bulkhead/mem"
	"bulkhead/sample"
)

// The greatest word.
const top = uint32(0xffffffff)

// numbers of words that no channel has.
var wrongWords = []int{0, 17, -1, -16, 18, 256, 1 << 31, 1<<32 + 1, 1<<32 + 2, math.MinInt, math.MinInt + 2, math.MaxInt, math.MaxInt - 1}

// places that no memory has.
var wrongPlaces = []int{-1, -2, -5, -16, 1 << 14, 1 << 31, 1 << 32, 1<<32 + 1, math.MinInt, math.MinInt + 1, math.MaxInt, math.MaxInt - 1, math.MaxInt - 18}

// memory makes one of so many frames of zeros.
func memory(t *testing.T, frames int) *mem.Memory {
	t.Helper()
	m, e := mem.New(frames)
	if e != api.OK {
		t.Fatalf("mem.New(%d): error %d", frames, e)
	}
	return m
}

// marked makes a memory of so many frames, each word of which is unlike the others and none of which is right at any place.
func marked(t *testing.T, frames int) *mem.Memory {
	t.Helper()
	m := memory(t, frames)
	for i := range frames * api.FrameWords {
		m.Write(i, 0xabcd0000+uint32(i))
	}
	return m
}

// lay lays words down.
func lay(t *testing.T, m *mem.Memory, at int, words ...uint32) {
	t.Helper()
	if e := m.Lay(at, words); e != api.OK {
		t.Fatalf("Lay(%d): error %d", at, e)
	}
}

// lies asks for the words from a place on.
func lies(t *testing.T, m *mem.Memory, at int, want ...uint32) {
	t.Helper()
	if got, e := m.Take(at, len(want)); e != api.OK || !slices.Equal(got, want) {
		t.Errorf("the words from %d on: %x, error %d, want %x", at, got, e, want)
	}
}

// stays asks that a memory has these words.
func stays(t *testing.T, m *mem.Memory, want []uint32) {
	t.Helper()
	if got := m.Words(); !slices.Equal(got, want) {
		t.Errorf("the words %x, want %x", got, want)
	}
}

// puts puts a message, and asks for the error.
func puts(t *testing.T, m *mem.Memory, stage, words int, message []uint32, e api.Errno) {
	t.Helper()
	if f := sample.Put(m, stage, words, message); f != e {
		t.Errorf("Put(%d, %d, %x): error %d, want %d", stage, words, message, f, e)
	}
}

// staged asks how many messages lie on a stage.
func staged(t *testing.T, m *mem.Memory, stage, words, want int, e api.Errno) {
	t.Helper()
	if got, f := sample.Staged(m, stage, words); got != want || f != e {
		t.Errorf("Staged(%d, %d): %d, error %d, want %d, error %d", stage, words, got, f, want, e)
	}
}

// delivers delivers, and asks for the error.
func delivers(t *testing.T, m *mem.Memory, stage, words int, ports []int, e api.Errno) {
	t.Helper()
	if f := sample.Deliver(m, stage, words, ports); f != e {
		t.Errorf("Deliver(%d, %d, %d): error %d, want %d", stage, words, ports, f, e)
	}
}

// reads asks for a port's message.
func reads(t *testing.T, m *mem.Memory, port, words int, want []uint32, fresh bool) {
	t.Helper()
	got, f, there, e := sample.Read(m, port, words)
	if !slices.Equal(got, want) || f != fresh || there != (len(want) > 0) || e != api.OK {
		t.Errorf("Read(%d, %d): %x, %v, %v, error %d, want %x, %v", port, words, got, f, there, e, want, fresh)
	}
}

// unread asks that a port is refused, with nothing beside the error.
func unread(t *testing.T, m *mem.Memory, port, words int, want api.Errno) {
	t.Helper()
	if got, fresh, there, e := sample.Read(m, port, words); len(got) != 0 || fresh || there || e != want {
		t.Errorf("Read(%d, %d): %x, %v, %v, error %d, want error %d", port, words, got, fresh, there, e, want)
	}
}

// refused asks that all four calls at one place answer an error, and change nothing.
func refused(t *testing.T, m *mem.Memory, at, words int, want api.Errno) {
	t.Helper()
	before := m.Words()
	puts(t, m, at, words, []uint32{1}, want)
	staged(t, m, at, words, 0, want)
	delivers(t, m, at, words, []int{0}, want)
	delivers(t, m, 0, words, []int{at}, want)
	unread(t, m, at, words, want)
	stays(t, m, before)
}

// rising makes n words that are unlike one another, and none of them 0.
func rising(n int, from uint32) []uint32 {
	out := make([]uint32, n)
	for i := range out {
		out[i] = from + uint32(i)
	}
	return out
}

// padded makes the words of a stage or port: its head, the message, and zeros up to so many words of a message.
func padded(words int, message []uint32, head ...uint32) []uint32 {
	out := append(slices.Clone(head), uint32(len(message)))
	out = append(out, message...)
	return append(out, make([]uint32, words-len(message))...)
}

// The chapter's examples, row by row.
func TestExamples(t *testing.T) {
	m := memory(t, 1)
	puts(t, m, 0, 2, []uint32{7}, api.OK)
	staged(t, m, 0, 2, 1, api.OK)
	lies(t, m, 0, 1, 1, 7, 0, 0, 0, 0, 0, 0, 0, 0, 0, 0, 0, 0, 0)

	puts(t, m, 0, 2, []uint32{8, 9}, api.OK)
	puts(t, m, 0, 2, nil, api.ErrSampleWords)
	puts(t, m, 0, 2, []uint32{}, api.ErrSampleWords)
	puts(t, m, 0, 2, []uint32{1, 2, 3}, api.ErrSampleWords)
	lies(t, m, 0, 1, 2, 8, 9, 0, 0, 0, 0, 0, 0, 0, 0, 0, 0, 0, 0)

	reads(t, m, 4, 2, nil, false)
	lies(t, m, 0, 1, 2, 8, 9, 0, 0, 0, 0, 0, 0, 0, 0, 0, 0, 0, 0)

	delivers(t, m, 0, 2, []int{4, 9}, api.OK)
	lies(t, m, 0, 0, 0, 0, 0, 1, 1, 2, 8, 9, 1, 1, 2, 8, 9, 0, 0)

	reads(t, m, 9, 2, []uint32{8, 9}, true)
	lies(t, m, 0, 0, 0, 0, 0, 1, 1, 2, 8, 9, 1, 1, 2, 8, 9, 0, 0)

	delivers(t, m, 0, 2, []int{4, 9}, api.OK)
	reads(t, m, 4, 2, []uint32{8, 9}, false)
	lies(t, m, 0, 0, 0, 0, 0, 1, 0, 2, 8, 9, 1, 0, 2, 8, 9, 0, 0)

	puts(t, m, 0, 2, []uint32{5}, api.OK)
	delivers(t, m, 0, 2, []int{4}, api.OK)
	last := []uint32{0, 0, 0, 0, 1, 1, 1, 5, 0, 1, 0, 2, 8, 9, 0, 0}
	stays(t, m, last)

	delivers(t, m, 0, 2, nil, api.ErrArg)
	puts(t, m, 0, 17, []uint32{1}, api.ErrArg)
	puts(t, m, 13, 2, []uint32{1}, api.ErrMemAt)
	puts(t, nil, 0, 2, []uint32{1}, api.ErrNil)
	stays(t, m, last)

	delivers(t, m, 0, 2, []int{4, 4}, api.ErrSampleForm)
	delivers(t, m, 0, 2, []int{3}, api.ErrSampleForm)
	unread(t, m, 5, 2, api.ErrSampleForm)
	stays(t, m, last)
}

// P19.1, P19.2, P19.5: a message of each length takes the place of one of each length, and no word around the stage is written.
func TestPut(t *testing.T) {
	for words := 1; words <= api.MaxMessage; words++ {
		for first := range words + 1 {
			for second := 1; second <= words; second++ {
				m := marked(t, 2)
				at := 5
				lay(t, m, at, make([]uint32, 2+words)...)
				want := m.Words()
				staged(t, m, at, words, 0, api.OK)
				if first > 0 {
					puts(t, m, at, words, rising(first, 70), api.OK)
					staged(t, m, at, words, 1, api.OK)
				}
				puts(t, m, at, words, rising(second, top-40), api.OK)
				staged(t, m, at, words, 1, api.OK)
				copy(want[at:], padded(words, rising(second, top-40), 1))
				stays(t, m, want)
			}
		}
	}
}

// P19.1: a message of zeros is one, and one of the greatest words too.
func TestPutAnyWords(t *testing.T) {
	m := memory(t, 1)
	puts(t, m, 0, 3, []uint32{0, 0}, api.OK)
	lies(t, m, 0, 1, 2, 0, 0, 0)
	staged(t, m, 0, 3, 1, api.OK)
	delivers(t, m, 0, 3, []int{5}, api.OK)
	lies(t, m, 0, 0, 0, 0, 0, 0, 1, 1, 2, 0, 0, 0)
	reads(t, m, 5, 3, []uint32{0, 0}, true)
	puts(t, m, 0, 3, []uint32{top, 1 << 31, top}, api.OK)
	lies(t, m, 0, 1, 3, top, 1<<31, top)
	delivers(t, m, 0, 3, []int{5}, api.OK)
	reads(t, m, 5, 3, []uint32{top, 1 << 31, top}, true)
}

// P19.3, P19.5: each number of ports, each length over each other one; what a port had not been named keeps its words.
func TestDeliver(t *testing.T) {
	for words := 1; words <= api.MaxMessage; words++ {
		for n := 1; n <= api.MaxDests; n++ {
			for length := 1; length <= words; length++ {
				delivery(t, words, n, length)
			}
		}
	}
}

// delivery brings a message to n of five ports, which hold messages of different lengths or none, then an empty stage.
func delivery(t *testing.T, words, n, length int) {
	t.Helper()
	m := marked(t, 12)
	stage := 50
	ports := []int{90, 1, 130, 28, 160}
	lay(t, m, stage, padded(words, rising(length, 300), 1)...)
	for i, at := range ports {
		if i == 0 {
			lay(t, m, at, make([]uint32, 3+words)...)
			continue
		}
		lay(t, m, at, padded(words, rising(1+i%words, 10), 1, uint32(i%2))...)
	}
	want := m.Words()
	delivers(t, m, stage, words, ports[:n], api.OK)
	clear(want[stage : stage+2+words])
	for _, at := range ports[:n] {
		copy(want[at:], padded(words, rising(length, 300), 1, 1))
		reads(t, m, at, words, rising(length, 300), true)
	}
	stays(t, m, want)
	staged(t, m, stage, words, 0, api.OK)

	delivers(t, m, stage, words, ports[1:], api.OK)
	for _, at := range ports[1:] {
		want[at+1] = 0
	}
	stays(t, m, want)
	for i, at := range ports[:n] {
		reads(t, m, at, words, rising(length, 300), i == 0)
	}
}

// P19.3: an empty stage leaves an empty port as it is.
func TestDeliverNothing(t *testing.T) {
	m := memory(t, 2)
	delivers(t, m, 0, 4, []int{6, 13, 20, 25}, api.ErrSampleForm)
	delivers(t, m, 0, 4, []int{6, 13, 25}, api.OK)
	stays(t, m, make([]uint32, 32))
	reads(t, m, 6, 4, nil, false)
}

// P19.4, P19.5: a port may be read as often as one likes, and what was answered is the caller's own.
func TestReadAgain(t *testing.T) {
	m := marked(t, 2)
	lay(t, m, 7, 1, 1, 3, 4, 0, 6, 0)
	before := m.Words()
	got, _, _, _ := sample.Read(m, 7, 4)
	if len(got) != 3 || cap(got) != 3 {
		t.Errorf("a message of %d words, with room for %d", len(got), cap(got))
	}
	for i := range got {
		got[i] = 99
	}
	for range 3 {
		reads(t, m, 7, 4, []uint32{4, 0, 6}, true)
	}
	stays(t, m, before)
}

// R5: a message and a list of ports are neither changed nor kept, the room behind their ends neither.
func TestGivenStays(t *testing.T) {
	m := memory(t, 2)
	room := []uint32{4, 5, 6, 7}
	puts(t, m, 0, 4, room[:2], api.OK)
	room[0] = 40
	lies(t, m, 0, 1, 2, 4, 5, 0, 0)
	ports := []int{6, 13, 77, 78}
	delivers(t, m, 0, 4, ports[:2], api.OK)
	if !slices.Equal(room, []uint32{40, 5, 6, 7}) || !slices.Equal(ports, []int{6, 13, 77, 78}) {
		t.Errorf("what was given: %d, %d", room, ports)
	}
}

// The first and the last place of a memory, and one beside them.
func TestPlaces(t *testing.T) {
	for words := 1; words <= api.MaxMessage; words++ {
		m := memory(t, 3)
		size := 48
		puts(t, m, size-2-words, words, []uint32{9}, api.OK)
		staged(t, m, size-2-words, words, 1, api.OK)
		puts(t, m, size-1-words, words, []uint32{9}, api.ErrMemAt)
		staged(t, m, size-1-words, words, 0, api.ErrMemAt)
		delivers(t, m, size-2-words, words, []int{0}, api.OK)
		reads(t, m, 0, words, []uint32{9}, true)
		delivers(t, m, size-1-words, words, []int{0}, api.ErrMemAt)

		m = memory(t, 3)
		puts(t, m, 0, words, []uint32{8}, api.OK)
		delivers(t, m, 0, words, []int{size - 2 - words}, api.ErrMemAt)
		unread(t, m, size-2-words, words, api.ErrMemAt)
		delivers(t, m, 0, words, []int{size - 3 - words}, api.OK)
		reads(t, m, size-3-words, words, []uint32{8}, true)
	}
}

// Places that are not there, and numbers of words that may not be.
func TestWrongNumbers(t *testing.T) {
	m := memory(t, 2)
	for _, at := range wrongPlaces {
		for _, words := range []int{1, 2, 16} {
			refused(t, m, at, words, api.ErrMemAt)
		}
	}
	for _, words := range wrongWords {
		for _, at := range []int{0, 4, -1, 32, math.MaxInt, math.MinInt} {
			refused(t, m, at, words, api.ErrArg)
		}
	}
	for at := 15; at < 32; at++ {
		unread(t, m, at, 16, api.ErrMemAt)
	}
}

// A nil memory is told ahead of all else.
func TestNilMemory(t *testing.T) {
	for _, words := range []int{-1, 0, 2, 17} {
		for _, at := range []int{-1, 0, math.MaxInt} {
			puts(t, nil, at, words, nil, api.ErrNil)
			puts(t, nil, at, words, []uint32{1}, api.ErrNil)
			staged(t, nil, at, words, 0, api.ErrNil)
			delivers(t, nil, at, words, nil, api.ErrNil)
			delivers(t, nil, at, words, []int{5}, api.ErrNil)
			delivers(t, nil, at, words, make([]int, 9), api.ErrNil)
			unread(t, nil, at, words, api.ErrNil)
		}
	}
}

// Where several errors apply: the arguments, then the places, then the message, then the form.
func TestOrderOfErrors(t *testing.T) {
	m := marked(t, 2)
	before := m.Words()
	long := make([]uint32, 17)
	puts(t, m, -1, 0, nil, api.ErrArg)
	puts(t, m, 40, 17, long, api.ErrArg)
	puts(t, m, 29, 2, nil, api.ErrMemAt)
	puts(t, m, 29, 2, long, api.ErrMemAt)
	puts(t, m, 28, 2, nil, api.ErrSampleWords)
	puts(t, m, 28, 2, long, api.ErrSampleWords)
	puts(t, m, 28, 2, []uint32{1}, api.ErrSampleForm)
	delivers(t, m, -1, 2, nil, api.ErrArg)
	delivers(t, m, 0, 2, make([]int, 5), api.ErrArg)
	delivers(t, m, -1, 2, []int{-1, -1, -1, -1, -1}, api.ErrArg)
	delivers(t, m, 0, 2, []int{0, 0, 0, 28}, api.ErrMemAt)
	delivers(t, m, 0, 2, []int{-1, 0, 0, 0}, api.ErrMemAt)
	delivers(t, m, 29, 2, []int{0, 0}, api.ErrMemAt)
	delivers(t, m, 0, 2, []int{4}, api.ErrSampleForm)
	stays(t, m, before)
}

// A stage and ports that have a word in common, by one word and by all, and those that just have none.
func TestInCommon(t *testing.T) {
	for words := 1; words <= api.MaxMessage; words++ {
		for _, full := range []bool{false, true} {
			for off := -4 - words; off <= 4+words; off++ {
				inCommon(t, words, off, full)
			}
		}
	}
}

// inCommon has a port some words away from the stage, then two ports some words away from one another; all words are 0, but of a stage that holds a message of a zero.
func inCommon(t *testing.T, words, off int, full bool) {
	t.Helper()
	m := memory(t, 8)
	stage, port := 40, 40+off
	e := api.OK
	if off > -3-words && off < 2+words {
		e = api.ErrSampleForm
	}
	if full && e == api.OK {
		puts(t, m, stage, words, []uint32{0}, api.OK)
	}
	before := m.Words()
	delivers(t, m, stage, words, []int{port}, e)
	delivers(t, m, stage, words, []int{100, port}, e)
	if e != api.OK {
		stays(t, m, before)
	}
	m = memory(t, 8)
	if full {
		puts(t, m, 0, words, []uint32{0}, api.OK)
	}
	before = m.Words()
	e = api.OK
	if off > -3-words && off < 3+words {
		e = api.ErrSampleForm
	}
	delivers(t, m, 0, words, []int{60, 60 + off}, e)
	if e != api.OK {
		delivers(t, m, 0, words, []int{60, 100, 60 + off}, e)
		delivers(t, m, 0, words, []int{20, 100, 60, 60 + off}, e)
		stays(t, m, before)
	}
}

// Stages that are not right, each by one word, and those that are.
func TestStageForm(t *testing.T) {
	for _, c := range []struct {
		words []uint32
		right bool
	}{
		{[]uint32{0, 0, 0, 0, 0}, true},
		{[]uint32{1, 1, 0, 0, 0}, true},
		{[]uint32{1, 1, top, 0, 0}, true},
		{[]uint32{1, 2, 0, 5, 0}, true},
		{[]uint32{1, 3, 5, 5, 5}, true},
		{[]uint32{0, 1, 0, 0, 0}, false},
		{[]uint32{0, 1, 7, 0, 0}, false},
		{[]uint32{0, 0, 7, 0, 0}, false},
		{[]uint32{0, 0, 0, 0, 1}, false},
		{[]uint32{1, 0, 0, 0, 0}, false},
		{[]uint32{1, 0, 7, 0, 0}, false},
		{[]uint32{1, 4, 7, 7, 7}, false},
		{[]uint32{1, top, 7, 7, 7}, false},
		{[]uint32{1, 1 << 31, 7, 7, 7}, false},
		{[]uint32{1, 1, 7, 7, 0}, false},
		{[]uint32{1, 1, 7, 0, 7}, false},
		{[]uint32{1, 2, 7, 7, 7}, false},
		{[]uint32{2, 1, 7, 0, 0}, false},
		{[]uint32{3, 1, 7, 0, 0}, false},
		{[]uint32{top, 1, 7, 0, 0}, false},
		{[]uint32{257, 1, 7, 0, 0}, false},
	} {
		m := marked(t, 2)
		lay(t, m, 3, c.words...)
		lay(t, m, 20, 1, 1, 1, 6, 0, 0)
		before := m.Words()
		if c.right {
			staged(t, m, 3, 3, int(c.words[0]), api.OK)
			stays(t, m, before)
			puts(t, m.Clone(), 3, 3, []uint32{6}, api.OK)
			delivers(t, m, 3, 3, []int{20}, api.OK)
			lies(t, m, 3, 0, 0, 0, 0, 0)
			continue
		}
		staged(t, m, 3, 3, 0, api.ErrSampleForm)
		puts(t, m, 3, 3, []uint32{6}, api.ErrSampleForm)
		delivers(t, m, 3, 3, []int{20}, api.ErrSampleForm)
		stays(t, m, before)
	}
}

// Ports that are not right, each by one word, and those that are; the last of several ports is looked at, too, ahead of all writing.
func TestPortForm(t *testing.T) {
	for _, c := range []struct {
		words []uint32
		right bool
	}{
		{[]uint32{0, 0, 0, 0, 0, 0}, true},
		{[]uint32{1, 0, 1, 0, 0, 0}, true},
		{[]uint32{1, 1, 1, 0, 0, 0}, true},
		{[]uint32{1, 1, 2, top, 5, 0}, true},
		{[]uint32{1, 0, 3, 5, 5, 5}, true},
		{[]uint32{0, 1, 0, 0, 0, 0}, false},
		{[]uint32{0, 1, 1, 7, 0, 0}, false},
		{[]uint32{0, 0, 1, 7, 0, 0}, false},
		{[]uint32{0, 0, 0, 0, 0, 1}, false},
		{[]uint32{1, 0, 0, 0, 0, 0}, false},
		{[]uint32{1, 1, 0, 0, 0, 0}, false},
		{[]uint32{1, 2, 1, 7, 0, 0}, false},
		{[]uint32{1, top, 1, 7, 0, 0}, false},
		{[]uint32{1, 1, 4, 7, 7, 7}, false},
		{[]uint32{1, 1, top, 7, 7, 7}, false},
		{[]uint32{1, 0, 1 << 31, 7, 7, 7}, false},
		{[]uint32{1, 1, 1, 7, 7, 0}, false},
		{[]uint32{1, 1, 1, 7, 0, 7}, false},
		{[]uint32{1, 0, 2, 7, 7, 7}, false},
		{[]uint32{2, 0, 1, 7, 0, 0}, false},
		{[]uint32{top, 1, 1, 7, 0, 0}, false},
	} {
		for _, stage := range [][]uint32{{0, 0, 0, 0, 0}, {1, 1, 6, 0, 0}} {
			m := marked(t, 2)
			lay(t, m, 3, c.words...)
			lay(t, m, 15, stage...)
			lay(t, m, 22, 1, 1, 2, 5, 5, 0)
			before := m.Words()
			if c.right {
				reads(t, m, 3, 3, c.words[3:3+c.words[2]], c.words[1] == 1)
				stays(t, m, before)
				delivers(t, m, 15, 3, []int{22, 3}, api.OK)
				continue
			}
			unread(t, m, 3, 3, api.ErrSampleForm)
			delivers(t, m, 15, 3, []int{3}, api.ErrSampleForm)
			delivers(t, m, 15, 3, []int{3, 22}, api.ErrSampleForm)
			delivers(t, m, 15, 3, []int{22, 3}, api.ErrSampleForm)
			stays(t, m, before)
		}
	}
}
