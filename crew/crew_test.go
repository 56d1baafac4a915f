package crew_test

import (
	"bytes"
	"math"
	"slices"
	"testing"

	"bulkhead/api"
	"bulkhead/asm"
	"bulkhead/crew"
	"bulkhead/image"
	"bulkhead/kernel"
	"bulkhead/text"
)

// recipe is all that a machine is made of.
type recipe struct {
	c        api.Config
	programs [][]uint32
	feeds    []api.Feed
}

// recipeOf reads a configuration and programs from their texts.
func recipeOf(t *testing.T, config string, programs ...string) recipe {
	t.Helper()
	c, line, e := text.Parse(config)
	if e != api.OK {
		t.Fatalf("the configuration's line %d: error %d", line, e)
	}
	x := recipe{c: c}
	for _, program := range programs {
		words, line, e := asm.Assemble(program)
		if e != api.OK {
			t.Fatalf("the line %d of\n%s: error %d", line, program, e)
		}
		x.programs = append(x.programs, words)
	}
	return x
}

// boot makes the machine, which must go well.
func (x recipe) boot(t *testing.T) *kernel.Kernel {
	t.Helper()
	k, e := kernel.New(x.c, x.programs, x.feeds)
	if k == nil || e != api.OK {
		t.Fatalf("New: %v, error %d", k, e)
	}
	return k
}

// late makes the machine of the beginning, but in a later frame.
func (x recipe) late(t *testing.T, epoch int) *kernel.Kernel {
	t.Helper()
	k := x.boot(t)
	words, states := k.Memory().Words(), k.States()
	words[16*x.c.Kernel+1] = uint32(epoch)
	for i := range states {
		states[i].Epoch = epoch
	}
	return x.restore(t, words, states)
}

// restore makes a machine of words and states, which must go well.
func (x recipe) restore(t *testing.T, words []uint32, states []api.CoreState) *kernel.Kernel {
	t.Helper()
	k, e := kernel.Restore(x.c, x.programs, x.feeds, words, states)
	if k == nil || e != api.OK {
		t.Fatalf("Restore: %v, error %d", k, e)
	}
	return k
}

// twin makes a machine that is as another one.
func (x recipe) twin(t *testing.T, k *kernel.Kernel) *kernel.Kernel {
	t.Helper()
	return x.restore(t, k.Memory().Words(), k.States())
}

// known is the machine of chapter 26's examples.
func known(t *testing.T) recipe {
	t.Helper()
	x := recipeOf(t, `
		memory 16
		major 400
		kernel 8 4
		partition a entry 0 action halt restarts 0 inputs 1 outputs 1
		  region 0 1 2 rwx
		core
		  window 0 300 100
		end`, "hyp 4\nmov r1, r2\nhyp 5\nhyp 7")
	x.feeds = []api.Feed{{Partition: 0, Epoch: 0, Words: []uint32{77}}}
	return x
}

// runs lets a crew play frames, which must go well.
func runs(t *testing.T, k *kernel.Kernel, epochs int) []api.Trace {
	t.Helper()
	traces, e := crew.Run(k, epochs)
	if e != api.OK || len(traces) != len(k.Partitions()) {
		t.Fatalf("Run of %d frames: %d traces, error %d", epochs, len(traces), e)
	}
	return traces
}

// plays lets a crew play picks, which must go well.
func plays(t *testing.T, k *kernel.Kernel, picks ...int) []api.Trace {
	t.Helper()
	traces, e := crew.Play(k, picks)
	if e != api.OK || len(traces) != len(k.Partitions()) {
		t.Fatalf("Play of %d picks: %d traces, error %d", len(picks), len(traces), e)
	}
	return traces
}

// imageOf tells all that a machine is, as bytes.
func imageOf(t *testing.T, k *kernel.Kernel) []byte {
	t.Helper()
	b, e := image.Save(k)
	if e != api.OK {
		t.Fatalf("Save: error %d", e)
	}
	return b
}

// alike asks that two machines are the same in all that they keep.
func alike(t *testing.T, got, want *kernel.Kernel, what string) {
	t.Helper()
	if !bytes.Equal(imageOf(t, got), imageOf(t, want)) || got.Epoch() != want.Epoch() {
		t.Fatalf("%s: the machine stands at %+v, want %+v", what, got.Cores(), want.Cores())
	}
}

// tell asks what traces tell.
func tell(t *testing.T, got, want []api.Trace, what string) {
	t.Helper()
	if len(got) != len(want) {
		t.Fatalf("%s: %d traces, want %d", what, len(got), len(want))
	}
	for p, x := range got {
		if !slices.Equal(x.Seen, want[p].Seen) || !slices.Equal(x.Events, want[p].Events) || !slices.Equal(x.Outs, want[p].Outs) {
			t.Fatalf("%s: partition %d is told\n%+v, want\n%+v", what, p, x, want[p])
		}
	}
}

// empty are traces without anything.
func empty(partitions int) []api.Trace { return make([]api.Trace, partitions) }

// context makes one of a PC and the registers from 1 on.
func context(pc uint32, regs ...uint32) api.Context {
	x := api.Context{PC: pc}
	copy(x.Regs[1:], regs)
	return x
}

// The section 'Errors'.
func TestNumbers(t *testing.T) {
	if api.ErrNil != 3 || api.ErrCrewEpochs != 300 || api.ErrLong != 2 || api.ErrKernelCore != 260 || api.MaxEpochs != 8 || api.MaxPicks != 65536 {
		t.Error("an error or a limit has another number")
	}
}

// P30.1, P30.2, P30.3, the examples.
func TestExamples(t *testing.T) {
	k := known(t).boot(t)
	tell(t, runs(t, k, 1), []api.Trace{{
		Seen: []api.Seen{
			{Cycle: 37, PC: 0, Word: 0x78000004, After: context(1, 0, 77)},
			{Cycle: 39, PC: 1, Word: 0x08480000, After: context(2, 77, 77)},
			{Cycle: 64, PC: 2, Word: 0x78000005, After: context(3)},
			{Cycle: 89, PC: 3, Word: 0x78000007, After: context(4)},
		},
		Events: []api.Event{{Kind: api.EventStop, Cycle: 89}},
		Outs:   []api.Out{{Word: 77}},
	}}, "the first frame")
	if got, want := k.Cores()[0], (api.CoreView{Mode: api.ModeWait, Partition: -1}); k.Epoch() != 1 || got != want {
		t.Errorf("behind it: epoch %d, %+v, want 1, %+v", k.Epoch(), got, want)
	}
	tell(t, runs(t, k, 2), empty(1), "two more")
	if k.Epoch() != 3 {
		t.Errorf("behind them: epoch %d, want 3", k.Epoch())
	}
	refusesRun(t, k, 0, api.ErrCrewEpochs)
	refusesRun(t, k, 9, api.ErrCrewEpochs)
	refusesRun(t, nil, 1, api.ErrNil)
	// It leaves, it switches.
	tell(t, plays(t, k, 0, 0), empty(1), "two picks")
	if got, want := k.Cores()[0], (api.CoreView{Epoch: 3, Mode: api.ModeArrive, Partition: -1}); got != want {
		t.Errorf("behind two picks: %+v, want %+v", got, want)
	}
	refusesPlay(t, k, []int{0, 1}, api.ErrKernelCore)
}

// refusesRun asks that Run answers an error, and nothing else comes of it.
func refusesRun(t *testing.T, k *kernel.Kernel, epochs int, want api.Errno) {
	t.Helper()
	refuses(t, k, want, func() ([]api.Trace, api.Errno) { return crew.Run(k, epochs) })
}

// refusesPlay asks that Play answers an error, and nothing else comes of it.
func refusesPlay(t *testing.T, k *kernel.Kernel, picks []int, want api.Errno) {
	t.Helper()
	refuses(t, k, want, func() ([]api.Trace, api.Errno) { return crew.Play(k, picks) })
}

func refuses(t *testing.T, k *kernel.Kernel, want api.Errno, call func() ([]api.Trace, api.Errno)) {
	t.Helper()
	var before []byte
	if k != nil {
		before = imageOf(t, k)
	}
	if traces, e := call(); len(traces) != 0 || e != want {
		t.Errorf("%d traces, error %d, want none, error %d", len(traces), e, want)
	}
	if k != nil && !bytes.Equal(imageOf(t, k), before) {
		t.Errorf("error %d, but the machine has changed", want)
	}
}

// P30.1: which numbers of frames are refused, wherever the machine stands; without a machine ErrNil comes first.
func TestRunRefuses(t *testing.T) {
	x := pair(t)
	stopped := x.late(t, api.MaxEpoch-1)
	plays(t, stopped, untilAll(t, x.twin(t, stopped), api.MaxEpoch, inTurn(2))...)
	begun := x.boot(t)
	plays(t, begun, 0, 0, 1, 0, 0, 1, 0)
	for _, n := range []int{0, -1, api.MaxEpochs + 1, 300, math.MaxInt, math.MinInt} {
		for _, k := range []*kernel.Kernel{x.boot(t), begun, stopped} {
			refusesRun(t, k, n, api.ErrCrewEpochs)
		}
		refusesRun(t, nil, n, api.ErrNil)
	}
	for n := 1; n <= api.MaxEpochs; n++ {
		k := x.boot(t)
		if runs(t, k, n); k.Epoch() != n {
			t.Errorf("Run of %d frames: epoch %d", n, k.Epoch())
		}
		refusesRun(t, nil, n, api.ErrNil)
	}
}

// P30.3: which picks are refused, and in which order; nothing is played then.
func TestPlayRefuses(t *testing.T) {
	x := pair(t)
	k := x.boot(t)
	plays(t, k, 0, 0, 1, 0)
	for _, wrong := range []int{-1, 2, 3, 4, 1 << 32, math.MaxInt, math.MinInt} {
		for _, picks := range [][]int{{wrong}, {wrong, 0}, {0, 1, 0, wrong, 1}, append(make([]int, api.MaxPicks-1), wrong)} {
			refusesPlay(t, k, picks, api.ErrKernelCore)
			refusesPlay(t, nil, picks, api.ErrNil)
		}
		refusesPlay(t, k, append(make([]int, api.MaxPicks), wrong), api.ErrLong)
	}
	long := make([]int, api.MaxPicks+1)
	refusesPlay(t, k, long, api.ErrLong)
	refusesPlay(t, nil, long, api.ErrNil)
	refusesPlay(t, nil, nil, api.ErrNil)

	// As many as may be are played: each frame of a partition that is halted takes three steps.
	k = known(t).boot(t)
	plays(t, k, long[:api.MaxPicks]...)
	if want := 1 + (api.MaxPicks-18)/3; k.Epoch() != want {
		t.Errorf("behind MaxPicks picks: epoch %d, want %d", k.Epoch(), want)
	}
}

// P30.3: without picks nothing is played, and there is a trace for each partition all the same.
func TestPlayNothing(t *testing.T) {
	x := pair(t)
	for _, picks := range [][]int{nil, {}} {
		k := x.boot(t)
		tell(t, plays(t, k, picks...), empty(3), "no picks")
		alike(t, k, x.boot(t), "no picks")
	}
}

// R5: what was handed in stays as it is, the room behind its end too, and answers share nothing with one another or with the machine.
func TestOwnMemory(t *testing.T) {
	x := pair(t)
	k, still := x.boot(t), x.boot(t)
	whole := append(slices.Repeat([]int{0, 1}, 90), 7, 8, 9)
	picks, kept := whole[:180], slices.Clone(whole)
	first := plays(t, k, picks...)
	if !slices.Equal(whole, kept) {
		t.Error("Play has changed its picks, or what stands behind them")
	}
	want := plays(t, still, picks...)
	for i := range picks {
		picks[i] = 1 << 20
	}
	second, more := runs(t, k, 2), runs(t, still, 2)
	for _, traces := range [][]api.Trace{first, second} {
		if len(traces[0].Seen) < 10 || len(traces[0].Outs) < 2 {
			t.Fatalf("too little is told: %+v", traces[0])
		}
	}
	clear(first[0].Seen)
	first[1].Seen = append(first[1].Seen, api.Seen{Partition: 9})
	clear(first[0].Outs)
	tell(t, second, more, "behind a change of an earlier answer")
	clear(second[0].Seen)
	second[0] = api.Trace{}
	tell(t, runs(t, k, 2), runs(t, still, 2), "the next frames")
	alike(t, k, still, "the next frames")
	tell(t, want, plays(t, x.boot(t), slices.Repeat([]int{0, 1}, 90)...), "what was told at first")
}
