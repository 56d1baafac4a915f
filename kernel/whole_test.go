package kernel_test

import (
	"fmt"
	"math/rand/v2"
	"slices"
	"strconv"
	"strings"
	"testing"

	"bulkhead/api"
	"bulkhead/asm"
	"bulkhead/kernel"
	"bulkhead/text"
)

// stage plays a script of the document's section 'Examples of the whole', and tells what its transcript tells.
type stage struct {
	t      *testing.T
	lines  []string
	told   []string
	made   recipe
	k      *kernel.Kernel
	traces []api.Trace
	pick   func(cores int) int // which core steps next in a run
	words  []uint32            // those that were kept
	states []api.CoreState
}

// note gathers what a turn tells, by partition.
func (s *stage) note(turn api.Turn) { gather(s.traces, turn) }

// gather adds what a turn tells to the traces.
func gather(traces []api.Trace, turn api.Turn) {
	for _, x := range turn.Seen {
		traces[x.Partition].Seen = append(traces[x.Partition].Seen, x)
	}
	for _, x := range turn.Events {
		if x.Partition >= 0 {
			traces[x.Partition].Events = append(traces[x.Partition].Events, x)
		}
	}
	for _, x := range turn.Outs {
		traces[x.Partition].Outs = append(traces[x.Partition].Outs, x)
	}
}

// tell adds a line to the transcript.
func (s *stage) tell(form string, parts ...any) {
	s.told = append(s.told, "  "+fmt.Sprintf(form, parts...))
}

// upTo takes the lines up to one, which goes, too.
func (s *stage) upTo(end string) []string {
	at := slices.IndexFunc(s.lines, func(l string) bool { return strings.TrimSpace(l) == end })
	block := s.lines[:at]
	s.lines = s.lines[at+1:]
	return block
}

// play does all lines.
func (s *stage) play() []string {
	for len(s.lines) > 0 {
		fields := strings.Fields(s.lines[0])
		s.lines = s.lines[1:]
		if len(fields) == 0 {
			continue
		}
		var numbers []int
		for _, f := range fields[1:] {
			n, _ := strconv.Atoi(f)
			numbers = append(numbers, n)
		}
		if s.k != nil {
			s.told = append(s.told, "> "+strings.Join(fields, " "))
			s.do(fields[0], append(numbers, 1))
		} else {
			s.prepare(fields[0], numbers)
		}
	}
	return s.told
}

// prepare does a line ahead of the machine's making.
func (s *stage) prepare(word string, n []int) {
	switch word {
	case "config":
		c, line, e := text.Parse(strings.Join(s.upTo("end"), "\n") + "\nend\n")
		if e != api.OK {
			s.t.Fatalf("the configuration's line %d: error %d", line, e)
		}
		s.made.c = c
	case "program":
		s.made.programs = append(s.made.programs, words(s.t, strings.Join(s.upTo("done"), "\n")))
	case "feed":
		f := api.Feed{Partition: n[0], Epoch: n[1]}
		for _, w := range n[2:] {
			f.Words = append(f.Words, uint32(w))
		}
		s.made.feeds = append(s.made.feeds, f)
	case "boot":
		s.k = s.made.boot(s.t)
		s.traces = make([]api.Trace, len(s.made.c.Partitions))
	}
}

// do does a line behind it; n ends with a 1, which stands for a number that is left out.
func (s *stage) do(word string, n []int) {
	switch word {
	case "step":
		for range n[1] {
			turn := steps(s.t, s.k, n[0])
			s.note(turn)
			s.tell("core %d %s", n[0], []string{"blocked", "run", "call", "switch", "arrive", "leave"}[turn.Kind])
		}
	case "round":
		for range n[0] {
			for core := range s.made.c.Cores {
				s.note(steps(s.t, s.k, core))
			}
		}
		s.tell("epoch %d", s.k.Epoch())
	case "run":
		s.run(s.k.Epoch() + n[0])
		s.tell("epoch %d", s.k.Epoch())
	case "save":
		s.words, s.states = s.k.Memory().Words(), s.k.States()
	case "load":
		s.k = s.made.restore(s.t, s.words, s.states)
	case "words":
		all := s.k.Memory().Words()
		for at := n[0]; at < n[0]+n[1]; at++ {
			s.tell("%d: %d", at, all[at])
		}
	default:
		s.show(word, n[0])
	}
}

// run plays till an epoch, each core up to its waiting for it.
func (s *stage) run(epoch int) {
	playTo(s.t, s.k, epoch, func() int { return s.pick(len(s.made.c.Cores)) }, s.note)
}

// playTo plays a machine in some order till all cores wait for an epoch, and hands each turn on.
func playTo(t *testing.T, k *kernel.Kernel, epoch int, pick func() int, note func(api.Turn)) {
	t.Helper()
	goes := func(v api.CoreView) bool { return v.Mode != api.ModeWait || v.Epoch != epoch-1 }
	for views := k.Cores(); slices.ContainsFunc(views, goes); views = k.Cores() {
		if core := pick(); goes(views[core]) {
			note(steps(t, k, core))
		}
	}
}

// show tells how all stands, or what a partition has seen, told and become since it was told last.
func (s *stage) show(word string, n int) {
	switch word {
	case "cores":
		for i, v := range s.k.Cores() {
			mode := []string{"", "run", "call", "arrive", "wait", "end"}[v.Mode]
			whose := strconv.Itoa(v.Partition)
			if v.Partition < 0 {
				whose = "none"
			}
			s.tell("core %d epoch %d window %d used %d %s partition %s", i, v.Epoch, v.Window, v.Used, mode, whose)
		}
	case "partitions":
		for p, x := range s.k.Partitions() {
			state := []string{"ready", "yielded", "restart", "halted"}[x.State]
			s.tell("partition %d %s %s restarts %d trap %d pc %d outs %d", p, s.made.c.Partitions[p].Name, state, x.Restarts, x.Trap, x.PC, x.Outs)
		}
	case "seen":
		for _, x := range s.traces[n].Seen {
			s.tell("%s", line(x))
		}
		s.traces[n].Seen = nil
	case "outs":
		for _, x := range s.traces[n].Outs {
			s.tell("at %d word %d", x.Epoch, x.Word)
		}
		s.traces[n].Outs = nil
	case "events":
		for _, x := range s.traces[n].Events {
			kind := []string{"", fmt.Sprintf("trap %d", x.Trap), fmt.Sprintf("halt %d", x.Trap), "stop", "warm", "cold"}[x.Kind]
			s.tell("at %d:%d %s", x.Epoch, x.Cycle, kind)
		}
		s.traces[n].Events = nil
	default:
		s.t.Fatalf("no command: %s", word)
	}
}

// line tells what was seen of an instruction.
func line(x api.Seen) string {
	word := strings.TrimSpace(asm.List([]uint32{x.Word}))
	if x.Trap == api.TrapFetch {
		word = "none"
	}
	out := fmt.Sprintf("at %d:%d pc %d %s", x.Epoch, x.Cycle, x.PC, word)
	if x.Trap != api.TrapNone {
		out += fmt.Sprintf(" trap %d", x.Trap)
	}
	if x.Read {
		out += fmt.Sprintf(" read %d %d", x.Addr, x.Value)
	}
	for i, w := range x.After.Regs {
		if w != 0 {
			out += fmt.Sprintf(" r%d=%d", i, w)
		}
	}
	return out
}

// orders are ways in which cores may step.
func orders() map[string]func(int) int {
	at := 0
	r := rand.New(rand.NewPCG(26, 7))
	return map[string]func(int) int{
		"in turn":         func(cores int) int { at++; return at % cores },
		"at random":       func(cores int) int { return r.IntN(cores) },
		"mostly the last": func(cores int) int { return max(r.IntN(cores), cores-1-r.IntN(9)/8) },
		"mostly core 0":   func(cores int) int { return r.IntN(cores) * (r.IntN(9) / 8) },
	}
}

// DOC.md, 'Examples of the whole', and that of chapter 32 (what audit and solo tell is left out): whichever core steps when in a run, the transcript is the same.
func TestExamplesOfTheWhole(t *testing.T) {
	for i, x := range wholes() {
		for order, pick := range orders() {
			s := &stage{t: t, lines: strings.Split(x.script, "\n"), pick: pick}
			var want []string
			for _, l := range strings.Split(x.told, "\n") {
				if strings.HasPrefix(strings.TrimSpace(l), ">") {
					want = append(want, strings.TrimSpace(l))
				} else if strings.TrimSpace(l) != "" {
					want = append(want, "  "+strings.TrimSpace(l))
				}
			}
			if got := s.play(); !slices.Equal(got, want) {
				t.Errorf("the example %d, %s:\n%s\nwant\n%s", i+1, order, strings.Join(got, "\n"), strings.Join(want, "\n"))
			}
		}
	}
}
