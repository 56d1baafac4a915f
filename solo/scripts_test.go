package solo_test

import (
	"fmt"
	"strings"
	"testing"

	"bulkhead/api"
	"bulkhead/asm"
)

// told is what a transcript of the document tells of a partition: by which command, of whom, and the lines.
type told struct {
	command   string
	partition int
	lines     string
}

// lines writes what a trace tells as a transcript's command does.
func lines(command string, x api.Trace) string {
	var out []string
	switch command {
	case "seen":
		for _, s := range x.Seen {
			out = append(out, seenLine(s))
		}
	case "events":
		for _, v := range x.Events {
			kind := []string{"", fmt.Sprintf("trap %d", v.Trap), fmt.Sprintf("halt %d", v.Trap), "stop", "warm", "cold", "epoch"}[v.Kind]
			out = append(out, fmt.Sprintf("at %d:%d %s", v.Epoch, v.Cycle, kind))
		}
	case "outs":
		for _, o := range x.Outs {
			out = append(out, fmt.Sprintf("at %d word %d", o.Epoch, o.Word))
		}
	}
	return strings.Join(out, "\n")
}

// seenLine writes what was seen of an instruction.
func seenLine(x api.Seen) string {
	word := strings.TrimSpace(asm.List([]uint32{x.Word}))
	if x.Trap == api.TrapFetch {
		word = "none"
	}
	out := fmt.Sprintf("at %d:%d pc %d %s", x.Epoch, x.Cycle, x.PC, word)
	if x.Trap != api.TrapNone {
		out += fmt.Sprintf(" trap %d", x.Trap)
	}
	if x.Read {
		out += fmt.Sprintf(" read %d %d", x.Addr, x.Value)
	}
	for i, w := range x.After.Regs {
		if w != 0 {
			out += fmt.Sprintf(" r%d=%d", i, w)
		}
	}
	return out
}

// tells asks for what a transcript tells behind so many frames.
func (r recipe) tells(t *testing.T, epochs int, want ...told) {
	t.Helper()
	traces := r.run(t, epochs)
	for _, w := range want {
		var plain []string
		for _, l := range strings.Split(strings.TrimSpace(w.lines), "\n") {
			plain = append(plain, strings.TrimSpace(l))
		}
		if got := lines(w.command, traces[w.partition]); got != strings.Join(plain, "\n") {
			t.Errorf("%s %d:\n%s\nwant\n%s", w.command, w.partition, got, strings.Join(plain, "\n"))
		}
	}
	for p, x := range traces {
		ownNumber(t, p, x)
	}
}

// ownNumber asks that all of a trace is the partition's own.
func ownNumber(t *testing.T, p int, x api.Trace) {
	t.Helper()
	for _, s := range x.Seen {
		if s.Partition != p {
			t.Fatalf("in the trace of %d: %+v", p, s)
		}
	}
	for _, v := range x.Events {
		if v.Partition != p {
			t.Fatalf("in the trace of %d: %+v", p, v)
		}
	}
	for _, o := range x.Outs {
		if o.Partition != p {
			t.Fatalf("in the trace of %d: %+v", p, o)
		}
	}
}

// DOC.md, 'Examples of the whole', 1: a message, the next frame, and its age.
func TestWholeMessage(t *testing.T) {
	recipeOf(t, `
		memory 10
		major 182
		kernel 2 8
		channel sampling 1
		partition one entry 0 action halt restarts 0 inputs 0 outputs 0
		  region 0 1 0 rwx
		  port 0 source
		partition two entry 0 action halt restarts 0 inputs 0 outputs 0
		  region 0 1 1 rwx
		  port 0 dest
		core
		  window 0 100 82
		core
		  window 1 100 82
		end`,
		"li r2, 9\nli r3, 1\nhyp 1\nhyp 0\njmp 2\nspace 4\nword 77",
		"li r2, 9\nhyp 2\nhyp 0\njmp -3",
	).tells(t, 3, told{"seen", 1, `
		at 0:14 pc 0 li r2, 9 r2=9
		at 0:39 pc 1 hyp 2 r1=6
		at 0:64 pc 2 hyp 0
		at 1:14 pc 3 jmp -3
		at 1:16 pc 0 li r2, 9 r2=9
		at 1:41 pc 1 hyp 2 r2=1 r3=1
		at 1:66 pc 2 hyp 0
		at 2:14 pc 3 jmp -3
		at 2:16 pc 0 li r2, 9 r2=9
		at 2:41 pc 1 hyp 2 r2=1
		at 2:66 pc 2 hyp 0`})
}

// 2: a queue of one message that nobody empties.
func TestWholeQueue(t *testing.T) {
	recipeOf(t, `
		memory 10
		major 364
		kernel 2 8
		channel queuing 1 1
		partition one entry 0 action halt restarts 0 inputs 0 outputs 0
		  region 0 1 0 rwx
		  port 0 source
		partition two entry 0 action halt restarts 0 inputs 0 outputs 1
		  region 0 1 1 rwx
		  port 0 dest
		core
		  window 0 100 82
		  window 1 100 82
		end`,
		"li r3, 1\nhyp 1\nli r1, 0\nhyp 1\nhyp 7", "hyp 3\nhyp 0\njmp -2",
	).tells(t, 2, told{"seen", 0, `
		at 0:14 pc 0 li r3, 1 r3=1
		at 0:39 pc 1 hyp 1
		at 0:41 pc 2 li r1, 0
		at 0:66 pc 3 hyp 1 r1=3
		at 0:97 pc 4 hyp 7`}, told{"seen", 1, `
		at 0:219 pc 0 hyp 3
		at 0:244 pc 1 hyp 0
		at 1:196 pc 2 jmp -2
		at 1:221 pc 0 hyp 3 r2=1
		at 1:246 pc 1 hyp 0`}, told{"events", 0, "at 0:97 stop"})
}

// 3 and 4: a trap, and a beginning anew, warm and cold.
func TestWholeAnew(t *testing.T) {
	for _, action := range []string{"warm", "cold"} {
		second := map[string]string{"warm": `
			at 0:203 pc 0 ld r1, r0, 8 read 8 1 r1=1
			at 0:205 pc 1 addi r1, r1, 1 r1=2
			at 0:208 pc 2 st r1, r0, 8 r1=2
			at 0:219 pc 3 div r2, r1, r0 trap 5 r1=2`, "cold": `
			at 0:203 pc 0 ld r1, r0, 8 read 8 0
			at 0:205 pc 1 addi r1, r1, 1 r1=1
			at 0:208 pc 2 st r1, r0, 8 r1=1
			at 0:219 pc 3 div r2, r1, r0 trap 5 r1=1`}[action]
		recipeOf(t, strings.Replace(`
			memory 6
			major 364
			kernel 2 4
			partition a entry 0 action ACTION restarts 1 inputs 0 outputs 0
			  region 0 1 0 rwx
			core
			  window 0 100 82
			  window 0 100 82
			end`, "ACTION", action, 1), "ld r1, r0, 8\naddi r1, r1, 1\nst r1, r0, 8\ndiv r2, r1, r0",
		).tells(t, 2, told{"seen", 0, `
			at 0:21 pc 0 ld r1, r0, 8 read 8 0
			at 0:23 pc 1 addi r1, r1, 1 r1=1
			at 0:26 pc 2 st r1, r0, 8 r1=1
			at 0:37 pc 3 div r2, r1, r0 trap 5 r1=1` + second}, told{"events", 0, `
			at 0:37 trap 5
			at 0:182 ` + action + `
			at 0:219 trap 5
			at 0:219 halt 5`})
	}
}

// 5: each window begins with an empty TLB and an empty cache.
func TestWholeCounter(t *testing.T) {
	recipeOf(t, `
		memory 6
		major 224
		kernel 2 4
		partition a entry 0 action halt restarts 0 inputs 0 outputs 0
		  region 0 1 0 rwx
		core
		  window 0 40 82
		  window none 20 82
		end`, "cyc r1\ncyc r2\ncyc r3\nhyp 0\njmp -4",
	).tells(t, 2, told{"seen", 0, `
		at 0:14 pc 0 cyc r1
		at 0:16 pc 1 cyc r2 r2=14
		at 0:18 pc 2 cyc r3 r2=14 r3=16
		at 0:43 pc 3 hyp 0
		at 1:14 pc 4 jmp -4
		at 1:22 pc 0 cyc r1 r1=238
		at 1:24 pc 1 cyc r2 r1=238 r2=246
		at 1:26 pc 2 cyc r3 r1=238 r2=246 r3=248
		at 1:51 pc 3 hyp 0`})
}

// 6: walls.
func TestWholeWalls(t *testing.T) {
	recipeOf(t, `
		memory 7
		major 182
		kernel 2 5
		partition a entry 0 action warm restarts 2 inputs 0 outputs 0
		  region 0 1 0 rx
		  region 255 1 1 rw
		core
		  window 0 100 82
		end`, `
		cyc r1
		li r2, 4095
		ld r3, r2, 0
		addi r3, r3, 1
		st r3, r2, 0
		addi r4, r3, -2
		beq r4, r0, there
		blt r4, r0, away
		jr r2
		there: st r3, r0, 0
		away: ld r5, r2, 1`,
	).tells(t, 4, told{"events", 0, `
		at 0:65 trap 3
		at 1:0 warm
		at 1:63 trap 4
		at 2:0 warm
		at 2:66 trap 1
		at 2:66 halt 1`})
}

// 7: a lock for which a core waits is not seen.
func TestWholeLock(t *testing.T) {
	recipeOf(t, `
		memory 10
		major 142
		kernel 2 8
		channel queuing 1 2
		partition one entry 0 action halt restarts 0 inputs 0 outputs 3
		  region 0 1 0 rwx
		  port 0 source
		partition two entry 0 action halt restarts 0 inputs 0 outputs 3
		  region 0 1 1 rwx
		  port 0 dest
		core
		  window 0 60 82
		core
		  window 1 60 82
		end`, "cyc r4\nli r3, 1\nhyp 1\nhyp 0\njmp -4", "li r2, 9\nhyp 2\ncyc r5\nhyp 0\njmp -4",
	).tells(t, 1, told{"seen", 1, `
		at 0:14 pc 0 li r2, 9 r2=9
		at 0:39 pc 1 hyp 2 r1=6
		at 0:41 pc 2 cyc r5 r1=6 r5=39
		at 0:66 pc 3 hyp 0 r5=39`})
}

// 8: what devices tell and hear.
func TestWholeDevice(t *testing.T) {
	r := recipeOf(t, `
		memory 6
		major 232
		kernel 2 4
		partition a entry 0 action halt restarts 0 inputs 2 outputs 1
		  region 0 1 0 rwx
		core
		  window 0 150 82
		end`, "li r1, 1\nhyp 4\nmov r1, r2\nhyp 5\nhyp 5\nhyp 0\njmp -6")
	r.feeds = []api.Feed{{Partition: 0, Epoch: 1, Words: []uint32{5, 6}}}
	r.tells(t, 2, told{"seen", 0, `
		at 0:14 pc 0 li r1, 1 r1=1
		at 0:39 pc 1 hyp 4 r1=7
		at 0:41 pc 2 mov r1, r2
		at 0:66 pc 3 hyp 5
		at 0:97 pc 4 hyp 5 r1=5
		at 0:122 pc 5 hyp 0
		at 1:14 pc 6 jmp -6
		at 1:22 pc 0 li r1, 1 r1=1
		at 1:47 pc 1 hyp 4 r2=6
		at 1:49 pc 2 mov r1, r2 r1=6 r2=6
		at 1:74 pc 3 hyp 5
		at 1:99 pc 4 hyp 5 r1=5
		at 1:124 pc 5 hyp 0`}, told{"outs", 0, `
		at 0 word 0
		at 1 word 6`})
}

// 9: what is played in two frames, the first time.
func TestWholeOuts(t *testing.T) {
	recipeOf(t, `
		memory 6
		major 182
		kernel 2 4
		partition a entry 0 action halt restarts 0 inputs 0 outputs 1
		  region 0 1 0 rwx
		core
		  window 0 100 82
		end`, "addi r1, r1, 1\nhyp 5\nhyp 0\njmp -3",
	).tells(t, 2, told{"outs", 0, `
		at 0 word 1
		at 1 word 1`})
}
