package boot_test

import (
	"slices"
	"strconv"
	"testing"

	"bulkhead/api"
	"bulkhead/boot"
	"bulkhead/mem"
	"bulkhead/text"
)

// exampleText is the text of chapter 12's example.
const exampleText = `memory 64
major 800
kernel 40 8
channel sampling 2
partition radio entry 0 action cold restarts 3 inputs 0 outputs 1
  region 0 2 10 rwx
  port 0 source
partition lamp entry 16 action halt restarts 0 inputs 2 outputs 0
  region 1 1 20 rx
  port 0 dest
core
  window 0 300 100
  window 1 300 100
core
  window none 700 100
end
`

func example() api.Config {
	c, _, e := text.Parse(exampleText)
	if e != api.OK {
		panic(e)
	}
	return c
}

// exampleWords are those of the example's memory without programs: the tables and lamp's saved PC (radio's is 0, at the word 660).
func exampleWords() []uint32 {
	words := make([]uint32, 1024)
	words[684] = 16
	words[704], words[720], words[721] = 0x80000168, 0x80000057, 0x8000005F
	words[736], words[753] = 0x80000178, 0x800000A5
	return words
}

// scattered is a configuration with regions of all rights in any order, whose pages do not follow on one another as their frames do; the kernel's frames lie between theirs.
func scattered() api.Config {
	return api.Config{
		Frames: 160, Major: 200, Kernel: 8, Room: 20,
		Cores:    [][]api.Window{{{Partition: 0, Usable: 100, Slack: 100}}, {{Partition: 1, Usable: 100, Slack: 100}}},
		Channels: []api.Channel{{Kind: api.KindQueuing, Words: 3, Depth: 2}},
		Partitions: []api.Partition{
			{Name: "a", Entry: 4095, Regions: []api.Region{
				{Page: 255, Pages: 1, Frame: 0, Rights: 4}, {Page: 3, Pages: 2, Frame: 1, Rights: 1}, {Page: 0, Pages: 1, Frame: 7, Rights: 2},
				{Page: 1, Pages: 2, Frame: 4, Rights: 6}, {Page: 6, Pages: 1, Frame: 3, Rights: 5}}, Ports: []api.Port{{Channel: 0, Source: true}}},
			{Name: "b", Entry: 2, Regions: []api.Region{
				{Page: 64, Pages: 10, Frame: 150, Rights: 3}, {Page: 20, Pages: 44, Frame: 28, Rights: 3}, {Page: 0, Pages: 20, Frame: 80, Rights: 7}}, Ports: []api.Port{{Channel: 0}}},
			{Name: "c", Entry: 17, Regions: []api.Region{{Page: 1, Pages: 1, Frame: 6, Rights: 7}}},
		},
	}
}

// counted makes a program of so many words, from one on, none of them 0.
func counted(from uint32, many int) []uint32 {
	program := make([]uint32, many)
	for i := range program {
		program[i] = from + uint32(i)
	}
	return program
}

// booted makes a memory that must go well.
func booted(t *testing.T, c api.Config, programs [][]uint32) *mem.Memory {
	t.Helper()
	m, e, at := boot.Boot(c, programs)
	if m == nil || e != api.OK || at != -1 {
		t.Fatalf("Boot: %v, error %d, %d, want a memory, error 0, -1", m, e, at)
	}
	return m
}

// refused asks for an error of Boot, with no memory beside it.
func refused(t *testing.T, what string, c api.Config, programs [][]uint32, e api.Errno, at int) {
	t.Helper()
	if m, f, n := boot.Boot(c, programs); m != nil || f != e || n != at {
		t.Errorf("%s: Boot: %v, error %d, %d, want no memory, error %d, %d", what, m, f, n, e, at)
	}
}

// has asks that a memory has just these words.
func has(t *testing.T, m *mem.Memory, want []uint32) {
	t.Helper()
	got := m.Words()
	if len(got) != len(want) {
		t.Fatalf("%d words, want %d", len(got), len(want))
	}
	for at, w := range got {
		if w != want[at] {
			t.Errorf("the word %d is %x, want %x", at, w, want[at])
			return
		}
	}
}

// anew asks what Anew answers.
func anew(t *testing.T, what string, m *mem.Memory, c api.Config, p int, program []uint32, e api.Errno) {
	t.Helper()
	if f := boot.Anew(m, c, p, program); f != e {
		t.Errorf("%s: Anew: error %d, want %d", what, f, e)
	}
}

// marked makes a memory without a word of 0, and tells its words.
func marked(t *testing.T, frames int) (*mem.Memory, []uint32) {
	t.Helper()
	words := make([]uint32, frames*api.FrameWords)
	for i := range words {
		words[i] = uint32(i)*0x01010101 | 0x40000000
	}
	m, e := mem.Of(words)
	if e != api.OK {
		t.Fatalf("mem.Of: error %d", e)
	}
	return m, words
}

// The row 'Errors'.
func TestNumbersOfErrors(t *testing.T) {
	if api.ErrArg != 1 || api.ErrNil != 3 || api.ErrBootConfig != 240 || api.ErrBootProgram != 241 {
		t.Error("an error has another number")
	}
}

// P24.1, the examples, with all words of the memory.
func TestExamples(t *testing.T) {
	c, want := example(), exampleWords()
	has(t, booted(t, c, nil), want)
	want[160], want[161] = 7, 8
	m := booted(t, c, [][]uint32{{7, 8}})
	has(t, m, want)

	refused(t, "lamp without page 0", c, [][]uint32{nil, {5}}, api.ErrBootProgram, 1)
	refused(t, "33 words", c, [][]uint32{make([]uint32, 33)}, api.ErrBootProgram, 0)
	refused(t, "three programs", c, make([][]uint32, 3), api.ErrBootProgram, 2)
	odd := example()
	odd.Major = 801
	refused(t, "Major 801", odd, nil, api.ErrBootConfig, -1)

	anew(t, "{9}", m, c, 0, []uint32{9}, api.OK)
	want[160], want[161] = 9, 0
	has(t, m, want)
	anew(t, "partition 2", m, c, 2, nil, api.ErrArg)
	small, _ := mem.New(63)
	anew(t, "63 frames", small, c, 0, nil, api.ErrBootConfig)
	has(t, m, want)
}

// R3: no programs, programs of no words, nil or empty: all the same.
func TestNoPrograms(t *testing.T) {
	for _, programs := range [][][]uint32{nil, {}, {nil}, {{}}, {nil, nil}, {{}, nil}, {{}, {}}, {{0}}, {make([]uint32, 32), {}}} {
		has(t, booted(t, example(), programs), exampleWords())
	}
	m := booted(t, example(), nil)
	for _, program := range [][]uint32{nil, {}} {
		anew(t, "no words", m, example(), 1, program, api.OK)
		has(t, m, exampleWords())
	}
}

// P24.1: the words of a space whose pages lie here and there, whatever their rights are and in whatever order the regions stand.
func TestPlaces(t *testing.T) {
	c := scattered()
	bare := booted(t, c, nil).Words()
	frames := []int{7, 4, 5, 1, 2} // of the pages 0 to 4 of a; page 5 is not there
	for _, many := range []int{1, 15, 16, 17, 31, 32, 33, 47, 48, 49, 64, 79, 80} {
		want := slices.Clone(bare)
		for i := range many {
			want[frames[i/16]*16+i%16] = 100 + uint32(i)
		}
		has(t, booted(t, c, [][]uint32{counted(100, many)}), want)
		m := booted(t, c, [][]uint32{counted(9000, 80), counted(7000, 50)})
		anew(t, "a", m, c, 0, counted(100, many), api.OK)
		anew(t, "b", m, c, 1, nil, api.OK)
		has(t, m, want)
	}
	for _, many := range []int{81, 96, 97, 112, 113, 1024} {
		refused(t, strconv.Itoa(many), c, [][]uint32{counted(100, many)}, api.ErrBootProgram, 0)
	}
}

// P24.1, 'Limits and their ends': MaxProgram words, and one more where there is room enough in the partition.
func TestLongest(t *testing.T) {
	c := scattered()
	want := booted(t, c, nil).Words()
	copy(want[80*16:], counted(1, 320))
	copy(want[28*16:], counted(321, 704))
	has(t, booted(t, c, [][]uint32{nil, counted(1, 1024)}), want)
	m := booted(t, c, nil)
	anew(t, "1024 words", m, c, 1, counted(1, 1024), api.OK)
	has(t, m, want)
	for _, many := range []int{1025, 1040, 1184, 4096, 4097, 100000} {
		refused(t, strconv.Itoa(many), c, [][]uint32{nil, counted(1, many)}, api.ErrBootProgram, 1)
		anew(t, strconv.Itoa(many), m, c, 1, counted(1, many), api.ErrBootProgram)
		has(t, m, want)
	}
}

// A program's words are any words, whether they are instructions or not; words of 0 are some, too.
func TestAnyWords(t *testing.T) {
	program := []uint32{0, 1, 0xffffffff, 0x80000000, 0, 0x78000007, 0}
	want := exampleWords()
	copy(want[160:], program)
	has(t, booted(t, example(), [][]uint32{program}), want)
	refused(t, "0 outside", example(), [][]uint32{nil, {0}}, api.ErrBootProgram, 1)
	refused(t, "0 behind the last page", example(), [][]uint32{make([]uint32, 33)}, api.ErrBootProgram, 0)
}

// P24.1: each partition's saved registers and state, with its tables, wherever the kernel lies.
func TestKernelWords(t *testing.T) {
	c := scattered()
	want := make([]uint32, 160*16)
	// The barrier is at 128, then 24 words for each partition: the lock, the saved registers, the state; the channel's 2 + 9 + 11 words end at 224.
	want[132+16], want[156+16], want[180+16] = 4095, 2, 17
	put := func(frame, entry, of, rights int) { want[frame*16+entry] = 0x80000000 | uint32(of)<<3 | uint32(rights) }
	// a: root 14, tables 15 and 16.
	put(14, 0, 15, 0)
	put(14, 15, 16, 0)
	put(15, 0, 7, 2)
	put(15, 1, 4, 6)
	put(15, 2, 5, 6)
	put(15, 3, 1, 1)
	put(15, 4, 2, 1)
	put(15, 6, 3, 5)
	put(16, 15, 0, 4)
	// b: root 17, tables 18 to 22.
	for i := range 5 {
		put(17, i, 18+i, 0)
	}
	for page := range 74 {
		switch {
		case page < 20:
			put(18+page/16, page%16, 80+page, 7)
		case page < 64:
			put(18+page/16, page%16, 28+page-20, 3)
		default:
			put(18+page/16, page%16, 150+page-64, 3)
		}
	}
	// c: root 23, table 24.
	put(23, 0, 24, 0)
	put(24, 1, 6, 7)
	has(t, booted(t, c, nil), want)
}

// P24.2: the words of p's regions are as Boot lays them, whatever stood there, and no other word changes: neither the tables', nor the kernel's, nor those of others or of nobody.
func TestAnew(t *testing.T) {
	c := scattered()
	own := [][][2]int{{{0, 4}, {4, 6}, {7, 8}}, {{28, 72}, {80, 100}, {150, 160}}, {{6, 7}}} // frames, up to the second one
	for p, program := range [][]uint32{counted(50, 35), counted(60, 700), nil} {
		m, want := marked(t, 160)
		anew(t, "of any words", m, c, p, program, api.OK)
		for _, run := range own[p] {
			clear(want[run[0]*16 : run[1]*16])
		}
		fresh := booted(t, c, [][]uint32{counted(50, 35), counted(60, 700)}).Words()
		for _, run := range own[p] {
			copy(want[run[0]*16:run[1]*16], fresh[run[0]*16:run[1]*16])
		}
		has(t, m, want)
		anew(t, "again", m, c, p, program, api.OK)
		has(t, m, want)
	}
}

// P24.2: a shorter program leaves nothing of a longer one, nor of what the partition has written.
func TestAnewShorter(t *testing.T) {
	c := scattered()
	m := booted(t, c, [][]uint32{counted(1, 80)})
	m.Fill(0, 16, 77)
	m.Fill(3*16, 16, 78)
	anew(t, "shorter", m, c, 0, counted(1, 20), api.OK)
	has(t, m, booted(t, c, [][]uint32{counted(1, 20)}).Words())
}

// R5: neither the configuration nor the programs are changed or kept, nor the room behind them.
func TestArguments(t *testing.T) {
	c, same := scattered(), scattered()
	room := counted(1, 100)
	programs := make([][]uint32, 1, 3)
	programs[0] = room[:40]
	programs[:3][1], programs[:3][2] = room[50:60], room[60:70]
	m := booted(t, c, programs)
	anew(t, "room behind", m, c, 0, room[:40], api.OK)
	want := m.Words()
	has(t, booted(t, same, [][]uint32{counted(1, 40)}), want)
	if !slices.Equal(room, counted(1, 100)) || len(programs[:3][1]) != 10 || len(programs[:3][2]) != 10 {
		t.Error("a program has changed")
	}
	clear(room)
	for p := range c.Partitions {
		clear(c.Partitions[p].Regions)
	}
	has(t, m, want)
	has(t, booted(t, same, [][]uint32{counted(1, 40)}), want)
}

// R5, R6: two memories of the same have the same words and nothing in common.
func TestMemoriesOfTheirOwn(t *testing.T) {
	programs := [][]uint32{counted(3, 30)}
	one, another := booted(t, example(), programs), booted(t, example(), programs)
	want := another.Words()
	has(t, one, want)
	one.Fill(0, 1024, 5)
	has(t, another, want)
	if !slices.Equal(programs[0], counted(3, 30)) {
		t.Error("a program has changed")
	}
}
