package kernel_test

import (
	"reflect"
	"slices"
	"testing"

	"bulkhead/api"
	"bulkhead/asm"
	"bulkhead/boot"
	"bulkhead/kernel"
	"bulkhead/text"
)

// recipe is all that a machine is made of.
type recipe struct {
	c        api.Config
	programs [][]uint32
	feeds    []api.Feed
}

// words assembles a program that must be right.
func words(t *testing.T, program string) []uint32 {
	t.Helper()
	w, line, e := asm.Assemble(program)
	if e != api.OK {
		t.Fatalf("the program's line %d: error %d", line, e)
	}
	return w
}

// recipeOf reads one from a configuration's text and programs' texts.
func recipeOf(t *testing.T, config string, programs ...string) recipe {
	t.Helper()
	c, line, e := text.Parse(config)
	if e != api.OK {
		t.Fatalf("the configuration's line %d: error %d", line, e)
	}
	r := recipe{c: c}
	for _, p := range programs {
		r.programs = append(r.programs, words(t, p))
	}
	return r
}

// boot makes the machine, which must go well.
func (r recipe) boot(t *testing.T) *kernel.Kernel {
	t.Helper()
	k, e := kernel.New(r.c, r.programs, r.feeds)
	if k == nil || e != api.OK {
		t.Fatalf("New: %v, error %d", k, e)
	}
	return k
}

// restore makes a machine of words and states, which must go well.
func (r recipe) restore(t *testing.T, words []uint32, states []api.CoreState) *kernel.Kernel {
	t.Helper()
	k, e := kernel.Restore(r.c, r.programs, r.feeds, words, states)
	if k == nil || e != api.OK {
		t.Fatalf("Restore: %v, error %d", k, e)
	}
	return k
}

// again makes a machine of what another one tells.
func (r recipe) again(t *testing.T, k *kernel.Kernel) *kernel.Kernel {
	t.Helper()
	return r.restore(t, k.Memory().Words(), k.States())
}

// known is the machine of the chapter's examples. Its kernel's words: the barrier at 128, the lock at 130, the saved registers at 132, the state at 149; the root is frame 10, its table frame 11.
func known(t *testing.T) recipe {
	t.Helper()
	r := recipeOf(t, `
		memory 16
		major 400
		kernel 8 4
		partition a entry 0 action halt restarts 0 inputs 1 outputs 1
		  region 0 1 2 rwx
		core
		  window 0 300 100
		end`, "hyp 4\nmov r1, r2\nhyp 5\nhyp 7")
	r.feeds = []api.Feed{{Partition: 0, Epoch: 0, Words: []uint32{77}}}
	return r
}

// steps lets a core step, which must go well.
func steps(t *testing.T, k *kernel.Kernel, core int) api.Turn {
	t.Helper()
	turn, e := k.Step(core)
	if e != api.OK || turn.Core != core {
		t.Fatalf("Step(%d): %+v, error %d", core, turn, e)
	}
	return turn
}

// same tells whether two values are the same, nil and empty lists alike.
func same(a, b any) bool { return alike(reflect.ValueOf(a), reflect.ValueOf(b)) }

func alike(a, b reflect.Value) bool {
	switch a.Kind() {
	case reflect.Slice:
		if a.Len() != b.Len() {
			return false
		}
		for i := range a.Len() {
			if !alike(a.Index(i), b.Index(i)) {
				return false
			}
		}
		return true
	case reflect.Struct:
		for i := range a.NumField() {
			if !alike(a.Field(i), b.Field(i)) {
				return false
			}
		}
		return true
	default:
		return a.Equal(b)
	}
}

// tells asks what a step was, and what it told.
func tells(t *testing.T, k *kernel.Kernel, want api.Turn) {
	t.Helper()
	if got := steps(t, k, want.Core); !same(got, want) {
		t.Fatalf("Step(%d):\n%+v, want\n%+v", want.Core, got, want)
	}
}

// plain asks that a step is of that kind and tells nothing.
func plain(t *testing.T, k *kernel.Kernel, core, kind int) {
	t.Helper()
	tells(t, k, api.Turn{Core: core, Kind: kind})
}

// stands asks how a core stands.
func stands(t *testing.T, k *kernel.Kernel, core int, want api.CoreView) {
	t.Helper()
	if got := k.Cores()[core]; got != want {
		t.Fatalf("the core %d is %+v, want %+v", core, got, want)
	}
}

// context makes one of a PC and the registers from 1 on.
func context(pc uint32, regs ...uint32) api.Context {
	x := api.Context{PC: pc}
	copy(x.Regs[1:], regs)
	return x
}

// The sections 'Errors' and 'Types'.
func TestNumbers(t *testing.T) {
	if api.ErrKernelCore != 260 || api.ErrKernelBoot != 261 || api.ErrKernelState != 262 || api.ErrNil != 3 {
		t.Error("an error has another number")
	}
	if api.ModeRun != 1 || api.ModeCall != 2 || api.ModeArrive != 3 || api.ModeWait != 4 || api.ModeEnd != 5 {
		t.Error("a mode has another number")
	}
	if api.TurnBlocked != 0 || api.TurnRun != 1 || api.TurnCall != 2 || api.TurnSwitch != 3 || api.TurnArrive != 4 || api.TurnLeave != 5 {
		t.Error("a turn has another number")
	}
}

// P26.2, P26.3, the examples, each step with all that it tells and leaves.
func TestExamples(t *testing.T) {
	r := known(t)
	k := r.boot(t)
	run := api.CoreView{Mode: api.ModeRun}
	stands(t, k, 0, run)

	plain(t, k, 0, api.TurnRun)
	stands(t, k, 0, api.CoreView{Used: 37, Mode: api.ModeCall, Context: context(1)})
	for range 3 {
		plain(t, k, 0, api.TurnCall)
	}
	stands(t, k, 0, api.CoreView{Used: 37, Mode: api.ModeCall, Context: context(1, 0, 77)})
	tells(t, k, api.Turn{Kind: api.TurnCall, Seen: []api.Seen{{Cycle: 37, Word: 0x78000004, After: context(1, 0, 77)}}})
	stands(t, k, 0, api.CoreView{Used: 37, Mode: api.ModeRun, Context: context(1, 0, 77)})
	tells(t, k, api.Turn{Kind: api.TurnRun, Seen: []api.Seen{{Cycle: 39, PC: 1, Word: 0x08480000, After: context(2, 77, 77)}}})

	plain(t, k, 0, api.TurnRun)
	for range 3 {
		plain(t, k, 0, api.TurnCall)
	}
	tells(t, k, api.Turn{Kind: api.TurnCall, Seen: []api.Seen{{Cycle: 64, PC: 2, Word: 0x78000005, After: context(3)}}, Outs: []api.Out{{Word: 77}}})
	plain(t, k, 0, api.TurnRun)
	for range 3 {
		plain(t, k, 0, api.TurnCall)
	}
	tells(t, k, api.Turn{
		Kind: api.TurnCall, Seen: []api.Seen{{Cycle: 89, PC: 3, Word: 0x78000007, After: context(4)}},
		Events: []api.Event{{Kind: api.EventStop, Cycle: 89}},
	})

	plain(t, k, 0, api.TurnSwitch)
	stands(t, k, 0, api.CoreView{Mode: api.ModeArrive, Partition: -1})
	for epoch := 1; epoch < 4; epoch++ {
		tells(t, k, api.Turn{Kind: api.TurnArrive, Events: []api.Event{{Kind: api.EventEpoch, Partition: -1, Epoch: epoch}}})
		stands(t, k, 0, api.CoreView{Epoch: epoch - 1, Mode: api.ModeWait, Partition: -1})
		if k.Epoch() != epoch {
			t.Errorf("Epoch: %d, want %d", k.Epoch(), epoch)
		}
		plain(t, k, 0, api.TurnLeave)
		stands(t, k, 0, api.CoreView{Epoch: epoch, Mode: api.ModeRun, Context: context(4)})
		plain(t, k, 0, api.TurnSwitch)
	}
	if p := k.Partitions(); len(p) != 1 || p[0] != (api.Status{State: api.StateHalted}) {
		t.Errorf("Partitions: %+v", p)
	}
}

// P26.6, P26.7, the examples: at any of these places a machine is made that goes on so; not with a table's word changed.
func TestExamplesOfRestore(t *testing.T) {
	r := known(t)
	k := r.boot(t)
	for i := range 24 {
		n := r.again(t, k)
		if !same(n.States(), k.States()) || !slices.Equal(n.Memory().Words(), k.Memory().Words()) {
			t.Fatalf("behind %d steps: %+v, want %+v", i, n.States(), k.States())
		}
		for at := 160; at < 192; at++ {
			changed := k.Memory().Words()
			changed[at] ^= 1 << (i % 32)
			if n, e := kernel.Restore(r.c, r.programs, r.feeds, changed, k.States()); n != nil || e != api.ErrKernelState {
				t.Fatalf("behind %d steps, the word %d changed: error %d", i, at, e)
			}
		}
		still := r.again(t, k)
		for range 24 {
			tells(t, n, steps(t, still, 0))
		}
		steps(t, k, 0)
	}
}

// The states of the chapter's examples, word by word ('Types').
func TestExamplesOfStates(t *testing.T) {
	k := known(t).boot(t)
	nothing := api.Held{Lines: make([][]int, api.Sets)}
	held := api.Held{Context: context(1), Lines: [][]int{{8}, {}, {}, {}}, Leaves: []api.Leaf{{Frame: 2, Rights: 7}}}
	call := api.CoreState{
		Used: 37, Mode: api.ModeCall, Held: held,
		Act: api.Act{Cost: 37, Call: 4, Word: 0x78000004}, Chain: []int{130},
	}
	want := []api.CoreState{{Mode: api.ModeRun, Held: nothing}, call}
	call.Asked, call.Tickets = true, []uint32{0}
	want = append(want, call)
	call.Asked, call.Locks = false, 1
	want = append(want, call)
	call.Done, call.Held.Context = true, context(1, 0, 77)
	want = append(want, call, api.CoreState{Used: 37, Mode: api.ModeRun, Held: call.Held})
	for i, w := range want {
		if got := k.States(); len(got) != 1 || !same(got[0], w) || len(got[0].Held.Lines) != api.Sets {
			t.Fatalf("behind %d steps: %+v, want %+v", i, got, w)
		}
		steps(t, k, 0)
	}
	// The word that the device is told stands there from the carrying out on.
	for range 4 {
		steps(t, k, 0)
	}
	got := k.States()[0]
	if !got.Done || !got.Tells || got.Word != 77 || got.Locks != 1 || got.Act.Call != api.CallOutput {
		t.Errorf("behind the carrying out: %+v", got)
	}
	for range 7 {
		steps(t, k, 0)
	}
	for i, mode := range []int{api.ModeArrive, api.ModeWait} {
		if got := k.States()[0]; !same(got, api.CoreState{Mode: mode, Held: nothing}) || len(got.Held.Lines) != api.Sets {
			t.Errorf("the state %d: %+v", i, got)
		}
		steps(t, k, 0)
	}
}

// P26.1: the memory of the beginning is Boot's, whatever is loaded; windows of nobody have a context of zeros.
func TestBeginning(t *testing.T) {
	r := shared(t)
	k := r.boot(t)
	m, _, _ := boot.Boot(r.c, r.programs)
	for at := range k.Memory().Differ(m) {
		t.Errorf("the word %d is another one than Boot's", at)
	}
	want := []api.CoreView{
		{Mode: api.ModeRun, Partition: -1},
		{Mode: api.ModeRun, Partition: 1, Context: context(1)},
	}
	if got := k.Cores(); !slices.Equal(got, want) {
		t.Errorf("Cores: %+v, want %+v", got, want)
	}
	for _, s := range k.States() {
		if s.Epoch != 0 || s.Window != 0 || s.Used != 0 || s.Mode != api.ModeRun || len(s.Held.Leaves) != 0 || !same(s.Held.Lines, make([][]int, api.Sets)) {
			t.Errorf("a state at the beginning: %+v", s)
		}
	}
	if k.Epoch() != 0 || !slices.Equal(k.Partitions(), make([]api.Status, 3)) {
		t.Errorf("Epoch %d, Partitions %+v", k.Epoch(), k.Partitions())
	}
}

// shared is a machine of two cores: partition 0 on core 0, behind a window that is nobody's; partition 1 on core 1, which it has alone; partition 2 without a window. Channel 0, a queue, leads from 0 to 1, channel 1 samples from 1 to 0 and 2.
// Its kernel's words: the barrier at 64; locks of the partitions at 66, 90, 114, saved registers at 68, 92, 116, states at 85, 109, 133; channel 0: lock 138, stage 140, port 145; channel 1: lock 152, stage 154, ports 158 and 163; roots and tables from frame 11 on: 11 and 12, 13 to 15, 16 and 17.
func shared(t *testing.T) recipe {
	t.Helper()
	r := recipeOf(t, `
		memory 24
		major 500
		kernel 4 14
		channel queuing 1 2
		channel sampling 2
		partition one entry 0 action warm restarts 2 inputs 2 outputs 2
		  region 0 2 18 rwx
		  port 0 source
		  port 1 dest
		partition two entry 1 action cold restarts 1 inputs 0 outputs 3
		  region 0 1 20 rwx
		  region 16 1 1 rw
		  port 0 dest
		  port 1 source
		partition three entry 0 action halt restarts 0 inputs 0 outputs 0
		  region 0 1 2 rx
		  port 1 dest
		core
		  window none 18 82
		  window 0 200 100
		  window 0 10 90
		core
		  window 1 200 300
		end`,
		"li r3, 1\nhyp 1\nmov r1, r2\nhyp 5\nhyp 0\njmp -5",
		"nop\nli r2, 257\nhyp 2\nld r4, r0, 256\nhyp 0\njmp -4")
	r.feeds = []api.Feed{{Partition: 0, Epoch: 2, Words: []uint32{5, 6}}, {Partition: 0, Epoch: 1, Words: []uint32{7}}, {Partition: 1, Epoch: 0}}
	return r
}
