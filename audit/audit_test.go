package audit_test

import (
	"slices"
	"testing"

	"bulkhead/api"
	"bulkhead/audit"
	"bulkhead/boot"
	"bulkhead/kernel"
	"bulkhead/mem"
	"bulkhead/text"
)

// recipe is all that a machine is made of.
type recipe struct {
	c        api.Config
	programs [][]uint32
	feeds    []api.Feed
}

// boot makes the machine, which must go well.
func (r recipe) boot(t *testing.T) *kernel.Kernel {
	t.Helper()
	k, e := kernel.New(r.c, r.programs, r.feeds)
	if k == nil || e != api.OK {
		t.Fatalf("New: %v, error %d", k, e)
	}
	return k
}

// restore makes a machine of words and states, which must go well.
func (r recipe) restore(t *testing.T, words []uint32, states []api.CoreState) *kernel.Kernel {
	t.Helper()
	k, e := kernel.Restore(r.c, r.programs, r.feeds, words, states)
	if k == nil || e != api.OK {
		t.Fatalf("Restore: %v, error %d", k, e)
	}
	return k
}

// configOf reads a configuration from its text.
func configOf(t *testing.T, config string) api.Config {
	t.Helper()
	c, line, e := text.Parse(config)
	if e != api.OK {
		t.Fatalf("the configuration's line %d: error %d", line, e)
	}
	return c
}

// known is the configuration of chapter 12's example.
func known(t *testing.T) api.Config {
	t.Helper()
	return configOf(t, `
		memory 64
		major 800
		kernel 40 8
		channel sampling 2
		partition radio entry 0 action cold restarts 3 inputs 0 outputs 1
		  region 0 2 10 rwx
		  port 0 source
		partition lamp entry 16 action halt restarts 0 inputs 2 outputs 0
		  region 1 1 20 rx
		  port 0 dest
		core
		  window 0 300 100
		  window 1 300 100
		core
		  window none 700 100
		end`)
}

// wide is a configuration with both kinds of channels, one of which has all the destinations that it may have. Its kernel's words: the barrier 320; the locks 322, 346, 370; the states 341, 365, 389; channel 0 (queuing, Words 2, Depth 3): lock 394, stage 396, port 406; channel 1 (sampling, Words 3): lock 418, stage 420, ports 425, 431, 437, 443; the roots are the frames 29, 31 and 34.
func wide(t *testing.T) api.Config {
	t.Helper()
	return configOf(t, `
		memory 40
		major 300
		kernel 20 18
		channel queuing 2 3
		channel sampling 3
		partition a entry 0 action warm restarts 2 inputs 0 outputs 16
		  region 0 1 0 rwx
		  port 0 source
		  port 1 dest
		  port 1 dest
		partition b entry 0 action cold restarts 15 inputs 0 outputs 0
		  region 0 2 2 rx
		  region 254 2 4 rw
		  port 1 dest
		  port 0 dest
		partition c entry 0 action halt restarts 0 inputs 0 outputs 2
		  region 15 2 6 rw
		  region 0 1 8 x
		  port 1 source
		  port 1 dest
		core
		  window 0 218 82
		core
		  window 1 218 82
		core
		  window 2 218 82
		end`)
}

// booted is a configuration's memory at the beginning, which must go well.
func booted(t *testing.T, c api.Config, programs ...[]uint32) *mem.Memory {
	t.Helper()
	m, e, _ := boot.Boot(c, programs)
	if m == nil || e != api.OK {
		t.Fatalf("Boot: error %d", e)
	}
	return m
}

// word is one that is written.
type word struct {
	at int
	w  uint32
}

// with writes words.
func with(t *testing.T, m *mem.Memory, words ...word) *mem.Memory {
	t.Helper()
	for _, x := range words {
		if e := m.Write(x.at, x.w); e != api.OK {
			t.Fatalf("Write(%d): error %d", x.at, e)
		}
	}
	return m
}

// finds asks which problems a memory has.
func finds(t *testing.T, c api.Config, m *mem.Memory, want ...api.Problem) {
	t.Helper()
	if got, e := audit.Memory(c, m); e != api.OK || !slices.Equal(got, want) {
		t.Errorf("Memory: %v, error %d, want %v", got, e, want)
	}
}

// touches asks whose words differ, whichever memory stands first.
func touches(t *testing.T, c api.Config, a, b *mem.Memory, want ...api.Owner) {
	t.Helper()
	for _, pair := range [][2]*mem.Memory{{a, b}, {b, a}} {
		if got, e := audit.Touched(c, pair[0], pair[1]); e != api.OK || !slices.Equal(got, want) {
			t.Errorf("Touched: %v, error %d, want %v", got, e, want)
		}
	}
}

// mayIt asks whether a partition may, which must not be refused.
func mayIt(t *testing.T, c api.Config, p int, o api.Owner) bool {
	t.Helper()
	ok, e := audit.May(c, p, o)
	if e != api.OK {
		t.Fatalf("May(%d, %v): error %d", p, o, e)
	}
	return ok
}

// The kinds' numbers, and those of the errors.
func TestNumbers(t *testing.T) {
	if api.ErrArg != 1 || api.ErrNil != 3 {
		t.Error("an error has another number")
	}
	if api.ProblemTable != 1 || api.ProblemState != 2 || api.ProblemLock != 3 || api.ProblemBarrier != 4 || api.ProblemStage != 5 || api.ProblemPort != 6 || api.ProblemCore != 7 {
		t.Error("a problem has another number")
	}
	if api.OwnNobody != 0 || api.OwnRegion != 1 || api.OwnBarrier != 2 || api.OwnLock != 3 || api.OwnSave != 4 || api.OwnState != 5 || api.OwnChannel != 6 || api.OwnStage != 7 || api.OwnPort != 8 || api.OwnTable != 9 {
		t.Error("an owner has another number")
	}
}

// P28.1, P28.2, the examples.
func TestExamplesOfMemory(t *testing.T) {
	c := known(t)
	fresh := func(words ...word) *mem.Memory { return with(t, booted(t, c), words...) }
	finds(t, c, fresh())
	finds(t, c, fresh(word{640, 3}), api.Problem{Kind: api.ProblemBarrier, Index: -1, At: 640})
	finds(t, c, fresh(word{661, 4}, word{662, 4}), api.Problem{Kind: api.ProblemState, Index: 0, At: 661})
	finds(t, c, fresh(word{642, 2}), api.Problem{Kind: api.ProblemLock, Index: 0, At: 642})
	finds(t, c, fresh(word{690, 2}))
	finds(t, c, fresh(word{690, 3}), api.Problem{Kind: api.ProblemLock, Index: 16, At: 690})
	finds(t, c, fresh(word{692, 1}), api.Problem{Kind: api.ProblemStage, Index: 0, At: 692})
	finds(t, c, fresh(word{720, 0}), api.Problem{Kind: api.ProblemTable, Index: 0, At: 720})
}

// P28.5, the examples.
func TestExamplesOfMay(t *testing.T) {
	c := known(t)
	stage := api.Owner{Kind: api.OwnStage}
	port := api.Owner{Kind: api.OwnPort, Index: 1}
	if !mayIt(t, c, 0, stage) || mayIt(t, c, 1, stage) {
		t.Error("the stage is not the source's alone")
	}
	if !mayIt(t, c, 1, port) || mayIt(t, c, 0, port) {
		t.Error("the port is not the destination's alone")
	}
	if mayIt(t, c, -1, api.Owner{Kind: api.OwnTable}) {
		t.Error("the frame's end may write a table")
	}
	refused(t, c, 2, stage)
	refused(t, c, 2, port)
	refused(t, c, 2, api.Owner{})
	refused(t, c, 1, api.Owner{Kind: api.OwnPort})
}

// refused asks that May answers ErrArg.
func refused(t *testing.T, c api.Config, p int, o api.Owner) {
	t.Helper()
	if ok, e := audit.May(c, p, o); ok || e != api.ErrArg {
		t.Errorf("May(%d, %v): %v, error %d, want ErrArg", p, o, ok, e)
	}
}
