package solo_test

import (
	"reflect"
	"testing"

	"bulkhead/api"
	"bulkhead/asm"
	"bulkhead/solo"
	"bulkhead/text"
)

// recipe is all that is played.
type recipe struct {
	c        api.Config
	programs [][]uint32
	feeds    []api.Feed
}

// words assembles a program that must be right.
func words(t *testing.T, program string) []uint32 {
	t.Helper()
	w, line, e := asm.Assemble(program)
	if e != api.OK {
		t.Fatalf("the program's line %d: error %d", line, e)
	}
	return w
}

// recipeOf reads one from a configuration's text and programs' texts.
func recipeOf(t *testing.T, config string, programs ...string) recipe {
	t.Helper()
	c, line, e := text.Parse(config)
	if e != api.OK {
		t.Fatalf("the configuration's line %d: error %d", line, e)
	}
	r := recipe{c: c}
	for _, p := range programs {
		r.programs = append(r.programs, words(t, p))
	}
	return r
}

// known is what chapter 26's examples are made of.
func known(t *testing.T) recipe {
	t.Helper()
	r := recipeOf(t, `
		memory 16
		major 400
		kernel 8 4
		partition a entry 0 action halt restarts 0 inputs 1 outputs 1
		  region 0 1 2 rwx
		core
		  window 0 300 100
		end`, "hyp 4\nmov r1, r2\nhyp 5\nhyp 7")
	r.feeds = []api.Feed{{Partition: 0, Epoch: 0, Words: []uint32{77}}}
	return r
}

// run plays so many frames, which must go well.
func (r recipe) run(t *testing.T, epochs int) []api.Trace {
	t.Helper()
	traces, e := solo.Run(r.c, r.programs, r.feeds, epochs)
	if e != api.OK || len(traces) != len(r.c.Partitions) {
		t.Fatalf("Run of %d frames: %d traces, error %d", epochs, len(traces), e)
	}
	return traces
}

// same tells whether two values are the same, nil and empty lists alike.
func same(a, b any) bool { return alike(reflect.ValueOf(a), reflect.ValueOf(b)) }

func alike(a, b reflect.Value) bool {
	switch a.Kind() {
	case reflect.Slice:
		if a.Len() != b.Len() {
			return false
		}
		for i := range a.Len() {
			if !alike(a.Index(i), b.Index(i)) {
				return false
			}
		}
		return true
	case reflect.Struct:
		for i := range a.NumField() {
			if !alike(a.Field(i), b.Field(i)) {
				return false
			}
		}
		return true
	default:
		return a.Equal(b)
	}
}

// context makes one of a PC and the registers from 1 on.
func context(pc uint32, regs ...uint32) api.Context {
	x := api.Context{PC: pc}
	copy(x.Regs[1:], regs)
	return x
}

// The section 'Errors', and the limit that P27.1 names.
func TestNumbers(t *testing.T) {
	if api.ErrSoloBoot != 270 || api.ErrSoloEpochs != 271 || api.MaxEpochs != 8 {
		t.Error("an error, or the limit, has another number")
	}
}

// P27.1 to P27.3, the examples, with all that they tell.
func TestExamples(t *testing.T) {
	fed := api.Trace{
		Seen: []api.Seen{
			{Cycle: 37, PC: 0, Word: 0x78000004, After: context(1, 0, 77)},
			{Cycle: 39, PC: 1, Word: 0x08480000, After: context(2, 77, 77)},
			{Cycle: 64, PC: 2, Word: 0x78000005, After: context(3)},
			{Cycle: 89, PC: 3, Word: 0x78000007, After: context(4)},
		},
		Events: []api.Event{{Kind: api.EventStop, Cycle: 89}},
		Outs:   []api.Out{{Word: 77}},
	}
	hungry := api.Trace{
		Seen: []api.Seen{
			{Cycle: 37, PC: 0, Word: 0x78000004, After: context(1, api.ToldIndex)},
			{Cycle: 39, PC: 1, Word: 0x08480000, After: context(2)},
			{Cycle: 64, PC: 2, Word: 0x78000005, After: context(3)},
			{Cycle: 89, PC: 3, Word: 0x78000007, After: context(4)},
		},
		Events: []api.Event{{Kind: api.EventStop, Cycle: 89}},
		Outs:   []api.Out{{Word: 0}},
	}
	empty := api.Trace{
		Seen:   []api.Seen{{Cycle: 23, Trap: api.TrapIllegal}},
		Events: []api.Event{{Kind: api.EventTrap, Cycle: 23, Trap: api.TrapIllegal}, {Kind: api.EventHalt, Cycle: 23, Trap: api.TrapIllegal}},
	}
	r := known(t)
	for i, x := range []struct {
		programs [][]uint32
		feeds    []api.Feed
		epochs   int
		want     api.Trace
	}{
		{r.programs, r.feeds, 0, api.Trace{}},
		{r.programs, r.feeds, 1, fed},
		{r.programs, r.feeds, 3, fed},
		{r.programs, r.feeds, api.MaxEpochs, fed},
		{r.programs, nil, 1, hungry},
		{nil, nil, 1, empty},
		{nil, nil, 8, empty},
	} {
		got := recipe{r.c, x.programs, x.feeds}.run(t, x.epochs)
		if !same(got, []api.Trace{x.want}) {
			t.Errorf("the row %d:\n%+v, want\n%+v", i, got, x.want)
		}
	}
}

// P27.1, the examples that are refused.
func TestExamplesOfErrors(t *testing.T) {
	r := known(t)
	refused := func(programs [][]uint32, feeds []api.Feed, epochs int, want api.Errno) {
		t.Helper()
		if traces, e := solo.Run(r.c, programs, feeds, epochs); traces != nil || e != want {
			t.Errorf("%v, error %d, want %d", traces, e, want)
		}
	}
	refused(r.programs, r.feeds, -1, api.ErrSoloEpochs)
	refused(r.programs, r.feeds, 9, api.ErrSoloEpochs)
	refused(append(r.programs, nil), r.feeds, 1, api.ErrSoloBoot)
	refused(r.programs, []api.Feed{{Partition: 1}}, 1, api.ErrSoloBoot)
}
