package tale_test

import (
	"fmt"
	"math/rand/v2"
	"slices"
	"strings"
	"testing"

	"bulkhead/api"
	"bulkhead/asm"
	"bulkhead/kernel"
	"bulkhead/solo"
	"bulkhead/tale"
	"bulkhead/text"
)

// A model tells what a script's commands tell, by steps alone.
type model struct {
	t        *testing.T
	c        api.Config
	programs [][]uint32
	feeds    []api.Feed
	k        *kernel.Kernel
	seen     [][]api.Seen
	told     [3][]int // how many of a partition's seen, outs, events were told
	outs     [][]api.Out
	events   [][]api.Event
	words    []uint32 // of the image
	states   []api.CoreState
	out      strings.Builder
}

func (m *model) line(format string, parts ...any) { fmt.Fprintf(&m.out, format+"\n", parts...) }

// step lets a core step.
func (m *model) step(core int) int {
	turn, e := m.k.Step(core)
	if e != api.OK {
		m.t.Fatal(e)
	}
	for _, x := range turn.Seen {
		m.seen[x.Partition] = append(m.seen[x.Partition], x)
	}
	for _, x := range turn.Outs {
		m.outs[x.Partition] = append(m.outs[x.Partition], x)
	}
	for _, x := range turn.Events {
		if x.Kind != api.EventEpoch {
			m.events[x.Partition] = append(m.events[x.Partition], x)
		}
	}
	return turn.Kind
}

// run plays so many frames, the last core first.
func (m *model) run(frames int) {
	goal := m.k.Epoch() + frames
	for waits := 0; waits < len(m.c.Cores); {
		waits = 0
		for core, x := range slices.Backward(m.k.Cores()) {
			if x.Mode == api.ModeWait && x.Epoch == goal-1 {
				waits++
			} else {
				m.step(core)
			}
		}
	}
}

// fresh tells from where on the things of a kind were not told.
func (m *model) fresh(kind, p, all int) int {
	from := m.told[kind][p]
	m.told[kind][p] = all
	return from
}

func (m *model) tellSeen(p int) {
	for _, x := range m.seen[p][m.fresh(0, p, len(m.seen[p])):] {
		s := fmt.Sprintf("  at %d:%d pc %d ", x.Epoch, x.Cycle, x.PC)
		if x.Trap == api.TrapFetch {
			s += "none"
		} else {
			s += strings.TrimSpace(asm.List([]uint32{x.Word}))
		}
		if x.Trap != 0 {
			s += fmt.Sprint(" trap ", x.Trap)
		}
		if x.Read {
			s += fmt.Sprintf(" read %d %d", x.Addr, x.Value)
		}
		for r := 0; r < 16; r++ {
			if v := x.After.Regs[r]; v > 0 {
				s += fmt.Sprintf(" r%d=%d", r, v)
			}
		}
		m.line("%s", s)
	}
}

func (m *model) tellEvents(p int) {
	for _, x := range m.events[p][m.fresh(2, p, len(m.events[p])):] {
		switch x.Kind {
		case api.EventTrap:
			m.line("  at %d:%d trap %d", x.Epoch, x.Cycle, x.Trap)
		case api.EventHalt:
			m.line("  at %d:%d halt %d", x.Epoch, x.Cycle, x.Trap)
		case api.EventStop:
			m.line("  at %d:%d stop", x.Epoch, x.Cycle)
		case api.EventWarm:
			m.line("  at %d:%d warm", x.Epoch, x.Cycle)
		case api.EventCold:
			m.line("  at %d:%d cold", x.Epoch, x.Cycle)
		}
	}
}

func (m *model) tellCores() {
	for i, x := range m.k.Cores() {
		whose := "none"
		if x.Partition != -1 {
			whose = fmt.Sprint(x.Partition)
		}
		mode := map[int]string{1: "run", 2: "call", 3: "arrive", 4: "wait", 5: "end"}[x.Mode]
		m.line("  core %d epoch %d window %d used %d %s partition %s", i, x.Epoch, x.Window, x.Used, mode, whose)
	}
}

func (m *model) tellSolo(p, frames int) {
	traces, e := solo.Run(m.c, m.programs, m.feeds, frames)
	if e != api.OK {
		m.t.Fatal(e)
	}
	a, b := m.seen[p], traces[p].Seen
	at := 0
	for at < len(a) && at < len(b) && a[at] == b[at] {
		at++
	}
	if at == len(a) || at == len(b) {
		m.line("  same %d %d", len(a), len(b))
	} else {
		m.line("  other at %d", at)
	}
}

// do does a command with its numbers, and tells what it must tell.
func (m *model) do(command string, n ...int) {
	m.out.WriteString("> " + command)
	for _, x := range n {
		fmt.Fprint(&m.out, " ", x)
	}
	m.line("")
	switch command {
	case "step":
		n = append(n, 1)
		for range n[1] {
			kind := m.step(n[0])
			m.line("  core %d %s", n[0], []string{"blocked", "run", "call", "switch", "arrive", "leave"}[kind])
		}
	case "round":
		n = append(n, 1)
		for range n[0] {
			for core := range m.c.Cores {
				m.step(core)
			}
		}
		m.line("  epoch %d", m.k.Epoch())
	case "run":
		m.run(append(n, 1)[0])
		m.line("  epoch %d", m.k.Epoch())
	case "epoch":
		m.line("  epoch %d", m.k.Epoch())
	case "cores":
		m.tellCores()
	case "partitions":
		for i, x := range m.k.Partitions() {
			m.line("  partition %d %s %s restarts %d trap %d pc %d outs %d", i, m.c.Partitions[i].Name, []string{"ready", "yielded", "restart", "halted"}[x.State], x.Restarts, x.Trap, x.PC, x.Outs)
		}
	case "seen":
		m.tellSeen(n[0])
	case "outs":
		for _, x := range m.outs[n[0]][m.fresh(1, n[0], len(m.outs[n[0]])):] {
			m.line("  at %d word %d", x.Epoch, x.Word)
		}
	case "events":
		m.tellEvents(n[0])
	case "words":
		for i, x := range m.k.Memory().Words()[n[0] : n[0]+n[1]] {
			m.line("  %d: %d", n[0]+i, x)
		}
	case "audit":
		m.line("  fine")
	case "solo":
		m.tellSolo(n[0], n[1])
	case "save":
		m.words, m.states = m.k.Memory().Words(), m.k.States()
	case "load":
		m.k, _ = kernel.Restore(m.c, m.programs, m.feeds, m.words, m.states)
	}
}

// configs are texts of configurations.
func configs() []string {
	trio := `config
memory 40
major 1092
kernel 8 20
channel sampling 3
channel queuing 2 2
channel queuing 1 8
partition p entry 0 action cold restarts 15 inputs 3 outputs 2
  region 0 2 0 rwx
  port 0 source
  port 1 dest
  port 2 source
partition q entry 2 action warm restarts 5 inputs 1 outputs 0
  region 0 1 2 rx
  region 1 1 3 rw
  port 0 dest
  port 1 source
partition r entry 0 action halt restarts 0 inputs 0 outputs 3
  region 0 4 4 rwx
  port 2 dest
  port 0 dest
partition s entry 16 action warm restarts 1 inputs 0 outputs 0
  region 1 1 30 x
core
  window 0 100 82
  window none 100 82
  window 0 182 182
  window 1 200 164
core
  window 2 1000 92
core
  window none 10 1082
end
`
	return []string{small, pair, trio}
}

// drawProgram draws a program's lines.
func drawProgram(r *rand.Rand) []string {
	reg := func() int { return []int{0, 1, 1, 2, 2, 3, 4, 15}[r.IntN(8)] }
	var lines []string
	for range 1 + r.IntN(13) {
		switch r.IntN(12) {
		case 0, 1:
			lines = append(lines, fmt.Sprintf("li r%d, %d", reg(), []int{0, 1, 2, 3, 8, 14, 20, 4095, -1}[r.IntN(9)]))
		case 2, 3, 4:
			lines = append(lines, fmt.Sprintf("hyp %d", []int{0, 1, 1, 2, 2, 3, 4, 5, 5, 6, 7, 8}[r.IntN(12)]))
		case 5:
			lines = append(lines, fmt.Sprintf("%s r%d, r%d, %d", []string{"ld", "st"}[r.IntN(2)], reg(), reg(), []int{0, 8, 12, 20, 31}[r.IntN(5)]))
		case 6:
			lines = append(lines, fmt.Sprintf("%s r%d, r%d, r%d", []string{"add", "sub", "mul", "div", "xor"}[r.IntN(5)], reg(), reg(), reg()))
		case 7:
			lines = append(lines, fmt.Sprintf("addi r%d, r%d, %d", reg(), reg(), r.IntN(5)-1))
		case 8:
			lines = append(lines, fmt.Sprintf("cyc r%d", reg()))
		case 9:
			lines = append(lines, fmt.Sprintf("bne r%d, r%d, %d", reg(), reg(), r.IntN(7)-4))
		case 10:
			lines = append(lines, fmt.Sprintf("word %d", r.Uint32()>>r.IntN(32)))
		case 11:
			lines = append(lines, "mov r15, r1")
		}
	}
	return append(lines, fmt.Sprintf("jmp %d", -r.IntN(len(lines)+1)))
}

// drawBeginning draws what comes ahead of the boot, and with it.
func drawBeginning(t *testing.T, r *rand.Rand) (*model, []string) {
	t.Helper()
	source := configs()[r.IntN(3)]
	lines := strings.Split(strings.TrimSpace(source), "\n")
	c, _, e := text.Parse(strings.TrimPrefix(source, "config\n"))
	if e != api.OK {
		t.Fatal(e)
	}
	n := len(c.Partitions)
	m := &model{t: t, c: c, programs: make([][]uint32, n), seen: make([][]api.Seen, n), outs: make([][]api.Out, n), events: make([][]api.Event, n)}
	for i := range m.told {
		m.told[i] = make([]int, n)
	}
	m.line("> config\n  cores %d partitions %d channels %d", len(c.Cores), n, len(c.Channels))
	for _, p := range r.Perm(n) {
		if c.Partitions[p].Entry == 16 || r.IntN(10) == 0 {
			continue
		}
		program := drawProgram(r)
		words, _, e := asm.Assemble(strings.Join(program, "\n"))
		if e != api.OK {
			t.Fatal(e, program)
		}
		m.programs[p] = words
		lines = append(append(append(lines, fmt.Sprint("program ", p)), program...), "done")
		m.line("> program %d\n  words %d", p, len(words))
	}
	for _, epoch := range r.Perm(5)[:r.IntN(4)] {
		f := api.Feed{Partition: r.IntN(n), Epoch: epoch}
		line := fmt.Sprintf("feed %d %d", f.Partition, f.Epoch)
		for range r.IntN(c.Partitions[f.Partition].Inputs + 1) {
			f.Words = append(f.Words, r.Uint32())
			line += fmt.Sprint(" ", f.Words[len(f.Words)-1])
		}
		m.feeds = append(m.feeds, f)
		lines = append(lines, line)
		m.line("> %s", line)
	}
	m.k, e = kernel.New(c, m.programs, m.feeds)
	if e != api.OK {
		t.Fatal(e)
	}
	m.line("> boot")
	return m, append(lines, "boot")
}

// drawCommand draws a command that may come behind the boot.
func drawCommand(r *rand.Rand, m *model) (string, []int) {
	core, p, frames := r.IntN(len(m.c.Cores)), r.IntN(len(m.c.Partitions)), 16*m.c.Frames
	switch word := []string{"step", "step", "round", "round", "run", "run", "cores", "partitions", "epoch", "seen", "seen", "outs", "events", "words", "audit", "solo", "save", "load"}[r.IntN(18)]; word {
	case "step":
		return word, [][]int{{core}, {core, r.IntN(30)}, {core, r.IntN(200)}}[r.IntN(3)]
	case "round":
		return word, [][]int{{}, {r.IntN(10)}, {r.IntN(300)}}[r.IntN(3)]
	case "run":
		return word, [][]int{{}, {1 + r.IntN(3)}}[r.IntN(2)]
	case "seen", "outs", "events":
		return word, []int{p}
	case "words":
		at := r.IntN(frames + 1)
		return word, []int{at, r.IntN(min(64, frames-at) + 1)}
	case "solo":
		return word, []int{p, r.IntN(9)}
	case "load":
		if m.words == nil {
			return "save", nil
		}
		return word, nil
	default:
		return word, nil
	}
}

// written writes a script's lines, the same in one of many ways.
func written(r *rand.Rand, lines []string, plain bool) string {
	if plain {
		return strings.Join(lines, "\n")
	}
	var out strings.Builder
	program := false
	for _, line := range lines {
		program = program || strings.HasPrefix(line, "program")
		mark := "#"
		if program && !strings.HasPrefix(line, "program") {
			mark = ";"
		}
		program = program && line != "done"
		if r.IntN(4) == 0 && mark == "#" {
			out.WriteString([]string{"\n", "# boot\n", "\t\r\n", " #\n"}[r.IntN(4)])
		}
		words := strings.Fields(line)
		out.WriteString([]string{"", " ", "\t", "\r "}[r.IntN(4)] + strings.Join(words, []string{" ", "\t", "  ", " \r"}[r.IntN(4)]))
		if mark == "#" || line != "done" {
			out.WriteString([]string{"", " ", "\t\r", mark, " " + mark + " done"}[r.IntN(5)])
		}
		out.WriteString("\n")
	}
	return out.String()
}

// P32.1, P32.2: drawn scripts tell what steps by hand, told by hand, do; where that is too long, the line is told.
func TestDrawn(t *testing.T) {
	long := 0
	for seed := range uint64(400) {
		r := rand.New(rand.NewPCG(32, seed))
		m, lines := drawBeginning(t, r)
		for range r.IntN(30) {
			command, numbers := drawCommand(r, m)
			m.do(command, numbers...)
			words := append([]string{command}, strings.Fields(strings.Trim(fmt.Sprint(numbers), "[]"))...)
			lines = append(lines, strings.Join(words, " "))
			if m.out.Len() > api.MaxText {
				break
			}
		}
		if m.out.Len() > api.MaxText {
			refuses(t, written(r, lines, true), len(lines), api.ErrLong)
			long++
			continue
		}
		script := written(r, lines, seed%2 == 0)
		got, err := tale.Run(script)
		if want := m.out.String(); err != nil || got != want {
			t.Fatalf("seed %d: %v\n%s\n%s", seed, err, script, diff(got, want))
		}
	}
	if long == 0 || long > 100 {
		t.Errorf("%d transcripts were too long", long)
	}
}

// diff tells the first lines at which two texts differ.
func diff(got, want string) string {
	a, b := strings.Split(got, "\n"), strings.Split(want, "\n")
	at := 0
	for at < len(a) && at < len(b) && a[at] == b[at] {
		at++
	}
	show := func(lines []string) string { return strings.Join(lines[max(0, at-5):min(len(lines), at+5)], "\n") }
	return fmt.Sprintf("line %d: got\n%s\nwant\n%s", at+1, show(a), show(b))
}
