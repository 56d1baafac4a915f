package solo_test

import (
	"fmt"
	"slices"
	"strings"
	"testing"

	"bulkhead/api"
)

// P27.3: an instruction begins as long as Used is below Usable, and ends when it will.
func TestUsable(t *testing.T) {
	config := `
		memory 6
		major 200
		kernel 2 4
		partition a entry 0 action halt restarts 0 inputs 0 outputs 0
		  region 0 1 0 rwx
		core
		  window 0 USABLE SLACK
		end`
	for _, x := range []struct {
		usable  int
		program string
		cycles  []int
	}{
		{1, "jmp 0", []int{14}},
		{14, "jmp 0", []int{14}},
		{15, "jmp 0", []int{14, 16}},
		{16, "jmp 0", []int{14, 16}},
		{17, "jmp 0", []int{14, 16, 18}},
		{118, "hyp 6\nnop\njmp -1", slices.Concat([]int{37}, every(39, 119))},
		{1, "hyp 6\nnop\njmp -1", []int{37}},
		{37, "hyp 6\nnop\njmp -1", []int{37}},
		{38, "hyp 6\nnop\njmp -1", []int{37, 39}},
		{15, "nop\nhyp 6", []int{14, 39}},
	} {
		c := strings.Replace(config, "USABLE", fmt.Sprint(x.usable), 1)
		r := recipeOf(t, strings.Replace(c, "SLACK", fmt.Sprint(200-x.usable), 1), x.program)
		var cycles []int
		for _, s := range r.run(t, 1)[0].Seen {
			cycles = append(cycles, s.Cycle)
		}
		if !slices.Equal(cycles, x.cycles) {
			t.Errorf("%d cycles of %q: %v, want %v", x.usable, x.program, cycles, x.cycles)
		}
	}
}

// every tells each second number from one on up to another one.
func every(from, to int) []int {
	var out []int
	for ; from <= to; from += 2 {
		out = append(out, from)
	}
	return out
}

// P27.2, P27.3: a partition's windows, one behind the other: the context goes on, the core holds nothing at first, and the cycles are reckoned from where the window begins.
func TestWindows(t *testing.T) {
	recipeOf(t, `
		memory 12
		major 400
		kernel 2 8
		partition a entry 0 action halt restarts 0 inputs 0 outputs 0
		  region 0 1 0 rwx
		partition b entry 0 action halt restarts 0 inputs 0 outputs 0
		  region 0 1 1 rwx
		core
		  window 1 10 82
		  window 0 16 82
		  window none 8 82
		  window 0 20 100
		end`, "cyc r1\naddi r2, r2, 1\njmp -2", "jmp 0",
	).tells(t, 2, told{"seen", 0, `
		at 0:106 pc 0 cyc r1 r1=92
		at 0:108 pc 1 addi r2, r2, 1 r1=92 r2=1
		at 0:294 pc 2 jmp -2 r1=92 r2=1
		at 0:296 pc 0 cyc r1 r1=294 r2=1
		at 0:298 pc 1 addi r2, r2, 1 r1=294 r2=2
		at 0:300 pc 2 jmp -2 r1=294 r2=2
		at 1:106 pc 0 cyc r1 r1=492 r2=2
		at 1:108 pc 1 addi r2, r2, 1 r1=492 r2=3
		at 1:294 pc 2 jmp -2 r1=492 r2=3
		at 1:296 pc 0 cyc r1 r1=694 r2=3
		at 1:298 pc 1 addi r2, r2, 1 r1=694 r2=4
		at 1:300 pc 2 jmp -2 r1=694 r2=4`}, told{"seen", 1, `
		at 0:14 pc 0 jmp 0
		at 1:14 pc 0 jmp 0`}, told{"events", 0, ""}, told{"outs", 0, ""})
}

// P27.3: a window ends where its partition yields, and the next one of the same frame goes on behind that; one that has stopped sees nothing any more.
func TestYieldAndStop(t *testing.T) {
	recipeOf(t, `
		memory 6
		major 364
		kernel 2 4
		partition a entry 0 action warm restarts 1 inputs 0 outputs 0
		  region 0 1 0 rwx
		core
		  window 0 100 82
		  window 0 100 82
		end`, "hyp 0\nli r5, 1\nhyp 0\nhyp 7\nnop",
	).tells(t, 5, told{"seen", 0, `
		at 0:37 pc 0 hyp 0
		at 0:196 pc 1 li r5, 1 r5=1
		at 0:221 pc 2 hyp 0 r5=1
		at 1:37 pc 3 hyp 7 r5=1`}, told{"events", 0, "at 1:37 stop"})
}

// reads tells what a trace has read, and where.
func reads(x api.Trace) []string {
	var out []string
	for _, s := range x.Seen {
		if s.Read {
			out = append(out, fmt.Sprintf("%d:%d", s.Addr, s.Value))
		}
	}
	return out
}

// P27.3: what is begun anew warm keeps its memory; cold all of its regions are as at the beginning, its program too; another partition's memory stays in both.
func TestAnew(t *testing.T) {
	config := `
		memory 16
		major 364
		kernel 4 12
		partition a entry 1 action ACTION restarts 2 inputs 0 outputs 0
		  region 0 1 0 rwx
		  region 32 1 1 rw
		partition b entry 0 action halt restarts 0 inputs 0 outputs 0
		  region 0 1 2 rwx
		core
		  window 0 100 82
		  window 1 100 82
		end`
	program := `
		word 7
		li r1, 512
		ld r2, r1, 3
		ld r3, r0, 0
		ld r4, r0, 15
		addi r2, r2, 1
		st r2, r1, 3
		st r2, r0, 0
		st r2, r0, 15
		jr r1`
	other := "ld r1, r0, 9\naddi r1, r1, 1\nst r1, r0, 9\nhyp 0\njmp -4"
	first := []string{"515:0", "0:7", "15:0"}
	for action, again := range map[string][]string{
		"warm": {"515:1", "0:1", "15:1", "515:2", "0:2", "15:2"},
		"cold": {"515:0", "0:7", "15:0", "515:0", "0:7", "15:0"},
	} {
		r := recipeOf(t, strings.Replace(config, "ACTION", action, 1), program, other)
		x := r.run(t, 5)
		if got, want := reads(x[0]), slices.Concat(first, again); !slices.Equal(got, want) {
			t.Errorf("%s: reads %v, want %v", action, got, want)
		}
		if got, want := reads(x[1]), []string{"9:0", "9:1", "9:2", "9:3", "9:4"}; !slices.Equal(got, want) {
			t.Errorf("%s: the other one reads %v, want %v", action, got, want)
		}
		// The costs: 14, 15 (the page 32), 3, 15 (two lines), 2, 3, 3, 9 (a line), 2, and 10 for the trap, as the page 32 is held but not to be run.
		r.tells(t, 5, told{"events", 0, strings.ReplaceAll(`
			at 0:76 trap 1
			at 1:0 ACTION
			at 1:76 trap 1
			at 2:0 ACTION
			at 2:76 trap 1
			at 2:76 halt 1`, "ACTION", action)}, told{"events", 1, ""})
		// The registers are zeros each time.
		for _, s := range x[0].Seen {
			if s.PC == 1 && s.After != context(2, 512) {
				t.Errorf("%s: it begins with %+v", action, s)
			}
		}
	}
}

// P27.3: each trap is noted as it is, at the cycle at which it ended; the context stays, and the last one halts.
func TestTraps(t *testing.T) {
	for trap, x := range map[int]struct {
		program string
		seen    api.Seen
	}{
		api.TrapFetch:   {"li r1, 16\njr r1", api.Seen{Cycle: 32, PC: 16}},
		api.TrapIllegal: {"li r1, 16\nword 1", api.Seen{Cycle: 25, PC: 1, Word: 1}},
		api.TrapLoad:    {"li r1, 16\nld r2, r1, 0", api.Seen{Cycle: 31, PC: 1, Word: 0x4C840000}},
		api.TrapStore:   {"li r1, 16\nst r2, r1, 4090", api.Seen{Cycle: 25, PC: 1, Word: 0x50840FFA}},
		api.TrapDivide:  {"li r1, 16\nrem r2, r1, r0", api.Seen{Cycle: 25, PC: 1, Word: 0x24840000}},
		api.TrapCall:    {"li r1, 16\nhyp 8", api.Seen{Cycle: 25, PC: 1, Word: 0x78000008}},
	} {
		r := recipeOf(t, `
			memory 6
			major 200
			kernel 2 4
			partition a entry 0 action warm restarts 1 inputs 0 outputs 0
			  region 0 1 0 rwx
			core
			  window 0 100 100
			end`, x.program)
		got := r.run(t, 3)[0]
		want := x.seen
		want.Trap, want.After = trap, context(x.seen.PC, 16)
		if len(got.Seen) == 0 || got.Seen[len(got.Seen)/2-1] != want {
			t.Errorf("the trap %d: %+v, want %+v", trap, got.Seen, want)
		}
		events := []api.Event{
			{Kind: api.EventTrap, Cycle: want.Cycle, Trap: trap}, {Kind: api.EventWarm, Epoch: 1},
			{Kind: api.EventTrap, Epoch: 1, Cycle: want.Cycle, Trap: trap}, {Kind: api.EventHalt, Epoch: 1, Cycle: want.Cycle, Trap: trap},
		}
		if !slices.Equal(got.Events, events) {
			t.Errorf("the trap %d: %+v, want %+v", trap, got.Events, events)
		}
		last := got.Seen[len(got.Seen)-1]
		last.Epoch--
		if last != want {
			t.Errorf("the trap %d, the second time: %+v, want %+v", trap, last, want)
		}
	}
}

// P27.2: the words told to devices are counted from 0 on in each frame, not in each window.
func TestOutsOfFrame(t *testing.T) {
	config := `
		memory 6
		major 400
		kernel 2 4
		partition a entry 0 action halt restarts 0 inputs 0 outputs OUTPUTS
		  region 0 1 0 rwx
		core
		  window 0 100 100
		  window 0 100 100
		end`
	for outputs, want := range []string{"", "at 0 word 5\nat 1 word 5\nat 2 word 5", "at 0 word 5\nat 0 word 5\nat 1 word 5\nat 1 word 5\nat 2 word 5\nat 2 word 5"} {
		r := recipeOf(t, strings.Replace(config, "OUTPUTS", fmt.Sprint(outputs), 1), "li r1, 5\nhyp 5\nhyp 0\njmp -3")
		r.tells(t, 3, told{"outs", 0, want})
		var tells []uint32
		for _, s := range r.run(t, 1)[0].Seen {
			if s.Word == 0x78000005 {
				tells = append(tells, s.After.Regs[1])
			}
		}
		if want := [][]uint32{{api.ToldFull, api.ToldFull}, {api.ToldOK, api.ToldFull}, {api.ToldOK, api.ToldOK}}[outputs]; !slices.Equal(tells, want) {
			t.Errorf("%d outputs: %v, want %v", outputs, tells, want)
		}
	}
}

// P27.2: calls are told the frame in which they are, devices too; each trace is its partition's own.
func TestEpochOfCalls(t *testing.T) {
	r := recipeOf(t, `
		memory 12
		major 200
		kernel 2 8
		partition a entry 0 action halt restarts 0 inputs 0 outputs 0
		  region 0 1 0 rwx
		partition b entry 0 action halt restarts 0 inputs 1 outputs 0
		  region 0 1 1 rwx
		core
		  window 1 100 100
		core
		  window 0 100 100
		end`, "hyp 6\nhyp 0\njmp -2", "hyp 6\nli r1, 0\nhyp 4\nhyp 0\njmp -4")
	var who [2][][2]uint32 // what each is told of itself: its number, and the epoch
	var input [][2]uint32  // what the device tells: whether, and the word
	want := [2][][2]uint32{}
	var words [][2]uint32
	for epoch := range uint32(api.MaxEpochs) {
		want[0] = append(want[0], [2]uint32{0, epoch})
		want[1] = append(want[1], [2]uint32{1, epoch})
		if epoch == 3 {
			words = append(words, [2]uint32{api.ToldIndex, 0})
			continue
		}
		words = append(words, [2]uint32{api.ToldOK, 100 + epoch})
		r.feeds = append(r.feeds, api.Feed{Partition: 1, Epoch: int(epoch), Words: []uint32{100 + epoch}})
	}
	for p, x := range r.run(t, api.MaxEpochs) {
		for _, s := range x.Seen {
			switch s.Word {
			case 0x78000006:
				who[p] = append(who[p], [2]uint32(s.After.Regs[2:4]))
			case 0x78000004:
				input = append(input, [2]uint32(s.After.Regs[1:3]))
			}
		}
		if !slices.Equal(who[p], want[p]) {
			t.Errorf("partition %d is told %v of itself, want %v", p, who[p], want[p])
		}
	}
	if !slices.Equal(input, words) {
		t.Errorf("the device tells %v, want %v", input, words)
	}
}

// P27.2, P27.8: what is sent in a frame is received in the next one, never in the same, whether who sends is played, or has its window, ahead of who receives or behind; so does a partition that tells itself.
func TestMessagesWait(t *testing.T) {
	config := `
		memory 28
		major 1400
		kernel 10 18
		channel sampling 1
		channel queuing 1 3
		channel queuing 2 1
		partition a entry 0 action halt restarts 0 inputs 0 outputs 0
		  region 0 2 0 rwx
		  port 0 source
		  port 1 dest
		partition b entry 0 action halt restarts 0 inputs 0 outputs 0
		  region 0 2 2 rwx
		  port 1 source
		  port 0 dest
		partition c entry 0 action halt restarts 0 inputs 0 outputs 0
		  region 0 2 4 rwx
		  port 2 source
		  port 2 dest
		core
		  window ORDER 300 100
		  window ORDER 300 100
		  window ORDER 300 300
		end`
	program := `
		again: addi r4, r4, 1
		st r4, r0, 30
		li r1, 0
		li r2, 30
		li r3, 1
		hyp 1
		add r6, r0, r1
		li r1, 1
		li r2, 31
		hyp 2
		ld r5, r0, 31
		hyp 0
		jmp again`
	for _, order := range []string{"012", "021", "102", "120", "201", "210"} {
		c := config
		for _, p := range order {
			c = strings.Replace(c, "ORDER", string(p), 1)
		}
		for p, x := range recipeOf(t, c, program, program, program).run(t, 6) {
			var sent, got []uint32
			for _, s := range x.Seen {
				switch s.Word {
				case 0x78000001:
					sent = append(sent, s.After.Regs[1])
				case 0x78000002:
					got = append(got, s.After.Regs[1])
				case 0x4D40001F:
					got = append(got, s.Value)
				}
			}
			if want := []uint32{6, 0, 0, 1, 0, 2, 0, 3, 0, 4, 0, 5}; !slices.Equal(got, want) || !slices.Equal(sent, make([]uint32, 6)) {
				t.Errorf("windows %s: partition %d receives %v, want %v; it is told %v of what it sends", order, p, got, want, sent)
			}
		}
	}
}

// P27.4: a partition without windows has an empty trace, though it has a program and is told something; those behind it have theirs.
func TestWithoutWindows(t *testing.T) {
	r := recipeOf(t, `
		memory 20
		major 200
		kernel 4 16
		channel sampling 1
		channel queuing 1 1
		partition a entry 0 action halt restarts 0 inputs 1 outputs 1
		  region 0 1 0 rwx
		  port 0 dest
		  port 1 source
		partition b entry 0 action halt restarts 0 inputs 1 outputs 1
		  region 0 1 1 rwx
		  port 0 source
		  port 1 dest
		core
		  window none 100 100
		core
		  window 1 100 100
		end`, "hyp 5\nhyp 7", "li r3, 1\nhyp 1\nhyp 0\njmp -3")
	r.feeds = []api.Feed{{Partition: 0, Epoch: 0, Words: []uint32{1}}}
	r.tells(t, 2, told{"seen", 0, ""}, told{"events", 0, ""}, told{"outs", 0, ""}, told{"seen", 1, `
		at 0:14 pc 0 li r3, 1 r3=1
		at 0:39 pc 1 hyp 1
		at 0:64 pc 2 hyp 0
		at 1:14 pc 3 jmp -3
		at 1:16 pc 0 li r3, 1 r3=1
		at 1:41 pc 1 hyp 1
		at 1:66 pc 2 hyp 0`})
	r.c.Cores = [][]api.Window{{{Partition: -1, Usable: 100, Slack: 100}}}
	if got := r.run(t, api.MaxEpochs); !same(got, make([]api.Trace, 2)) {
		t.Errorf("nobody has a window: %+v", got)
	}
}

// P27.3: the longest frames, as many as may be: the counter goes on through all of them.
func TestLongest(t *testing.T) {
	r := recipeOf(t, `
		memory 6
		major 16384
		kernel 2 4
		partition a entry 0 action halt restarts 0 inputs 0 outputs 0
		  region 0 1 0 rwx
		core
		  window 0 16302 82
		end`, "cyc r1\njmp -1")
	x := r.run(t, api.MaxEpochs)[0]
	// In each frame one instruction of 14 cycles, and 8144 of 2.
	if len(x.Seen) != 8145*api.MaxEpochs {
		t.Fatalf("%d instructions", len(x.Seen))
	}
	for i, s := range x.Seen {
		epoch, cycle := i/8145, 14+2*(i%8145)
		begin := cycle - 2
		if i%8145 == 0 {
			begin = 0
		}
		if s.Epoch != epoch || s.Cycle != cycle || s.PC == 0 && s.After.Regs[1] != uint32(16384*epoch+begin) {
			t.Fatalf("the instruction %d: %+v", i, s)
		}
	}
}
