package image_test

import (
	"bytes"
	"reflect"
	"slices"
	"testing"

	"bulkhead/api"
	"bulkhead/asm"
	"bulkhead/image"
	"bulkhead/kernel"
	"bulkhead/text"
)

// recipe is all that a machine is made of.
type recipe struct {
	c        api.Config
	programs [][]uint32
	feeds    []api.Feed
}

// recipeOf reads a configuration and programs from their texts.
func recipeOf(t *testing.T, config string, programs ...string) recipe {
	t.Helper()
	c, line, e := text.Parse(config)
	if e != api.OK {
		t.Fatalf("the configuration's line %d: error %d", line, e)
	}
	x := recipe{c: c}
	for _, program := range programs {
		words, line, e := asm.Assemble(program)
		if e != api.OK {
			t.Fatalf("the program's line %d: error %d", line, e)
		}
		x.programs = append(x.programs, words)
	}
	return x
}

// boot makes the machine, which must go well.
func (x recipe) boot(t *testing.T) *kernel.Kernel {
	t.Helper()
	k, e := kernel.New(x.c, x.programs, x.feeds)
	if k == nil || e != api.OK {
		t.Fatalf("New: %v, error %d", k, e)
	}
	return k
}

// load makes a machine of an image, which must go well.
func (x recipe) load(t *testing.T, b []byte) *kernel.Kernel {
	t.Helper()
	k, e := image.Load(b, x.c, x.programs, x.feeds)
	if k == nil || e != api.OK {
		t.Fatalf("Load of %d bytes: %v, error %d", len(b), k, e)
	}
	return k
}

// refuses asks that Load answers this error, and no machine.
func (x recipe) refuses(t *testing.T, b []byte, want api.Errno, what string) {
	t.Helper()
	if k, e := image.Load(b, x.c, x.programs, x.feeds); k != nil || e != want {
		t.Errorf("%s: Load of %d bytes: %v, error %d, want %d", what, len(b), k, e, want)
	}
}

// saved is a machine's image, which must go well.
func saved(t *testing.T, k *kernel.Kernel) []byte {
	t.Helper()
	b, e := image.Save(k)
	if e != api.OK {
		t.Fatalf("Save: error %d", e)
	}
	return b
}

// steps lets cores step, which must go well.
func steps(t *testing.T, k *kernel.Kernel, picks ...int) (turns []api.Turn) {
	t.Helper()
	for _, core := range picks {
		turn, e := k.Step(core)
		if e != api.OK {
			t.Fatalf("Step(%d): error %d", core, e)
		}
		turns = append(turns, turn)
	}
	return turns
}

// known is the machine of chapter 26's example.
func known(t *testing.T) recipe {
	t.Helper()
	x := recipeOf(t, `
		memory 16
		major 400
		kernel 8 4
		partition a entry 0 action halt restarts 0 inputs 1 outputs 1
		  region 0 1 2 rwx
		core
		  window 0 300 100
		end`, "hyp 4\nmov r1, r2\nhyp 5\nhyp 7")
	x.feeds = []api.Feed{{Partition: 0, Epoch: 0, Words: []uint32{77}}}
	return x
}

// full is a machine with all that a core's state can have: four cores, one of them with nobody's window alone, two whose partitions share both channels, calls with two locks, words that are told a device, full TLBs and caches, traps and yields.
func full(t *testing.T) recipe {
	t.Helper()
	x := recipeOf(t, `
		memory 64
		major 900
		kernel 30 24
		channel queuing 2 2
		channel sampling 1
		partition a entry 0 action warm restarts 3 inputs 2 outputs 3
		  region 0 2 0 rwx
		  region 20 6 4 rw
		  port 0 source
		  port 1 dest
		partition b entry 0 action halt restarts 0 inputs 1 outputs 0
		  region 0 2 12 rwx
		  region 240 2 16 rw
		  port 0 dest
		  port 1 source
		partition c entry 4 action cold restarts 15 inputs 0 outputs 1
		  region 0 1 20 rwx
		core
		  window 0 200 100
		  window none 100 100
		  window 0 300 100
		core
		  window 1 700 200
		core
		  window none 10 90
		  window 2 300 500
		core
		  window none 800 100
		end`,
		`begin: st r1, r0, 320
		st r1, r0, 340
		st r1, r0, 360
		ld r5, r0, 380
		st r5, r0, 400
		li r1, 0
		li r2, 320
		li r3, 2
		hyp 1
		hyp 4
		add r1, r2, r6
		hyp 5
		addi r6, r6, 1
		li r1, 1
		li r2, 324
		hyp 2
		hyp 0
		jmp begin`,
		`begin: li r1, 1
		li r2, 3840
		li r3, 1
		hyp 1
		li r1, 0
		li r2, 3850
		hyp 2
		hyp 3
		cyc r7
		st r7, r0, 3840
		jmp begin`,
		`nop
		nop
		nop
		nop
		hyp 6
		hyp 5
		addi r1, r1, 9
		hyp 5
		div r1, r1, r0`)
	x.feeds = []api.Feed{
		{Partition: 1, Epoch: 2, Words: []uint32{5}},
		{Partition: 0, Epoch: 2, Words: []uint32{1, 1 << 31}},
		{Partition: 0, Epoch: 0, Words: []uint32{4}},
		{Partition: 1, Epoch: 0},
	}
	return x
}

// The errors' numbers.
func TestNumbers(t *testing.T) {
	if api.ErrNil != 3 || api.ErrImageForm != 290 || api.ErrImageSum != 291 || api.ErrImageBoot != 292 {
		t.Error("an error has another number")
	}
}

// P29.1, the examples: the bytes of the beginning, one by one.
func TestBytesOfTheBeginning(t *testing.T) {
	x := known(t)
	k := x.boot(t)
	b := saved(t, k)
	if len(b) != 1124 {
		t.Fatalf("an image of %d bytes, not 1124", len(b))
	}
	if !bytes.Equal(b[:4], []byte{0x42, 0x48, 0x49, 0x31}) || !bytes.Equal(b[8:12], []byte{0, 1, 0, 0}) {
		t.Errorf("it begins with %x", b[:12])
	}
	if !bytes.Equal(b[12:1036], packed(k.Memory().Words())) {
		t.Error("the words are others")
	}
	if want := append([]byte{1, 1}, make([]byte, 82)...); !bytes.Equal(b[1036:1120], want) {
		t.Errorf("the cores are %x", b[1036:1120])
	}
	if !bytes.Equal(sealed(b[:1120]), b) {
		t.Errorf("the sum is %x", b[1120:])
	}
}

// P29.1, the examples: behind the first step.
func TestBytesOfACall(t *testing.T) {
	k := known(t).boot(t)
	first := saved(t, k)
	steps(t, k, 0)
	b := saved(t, k)
	if len(b) != 1158 {
		t.Fatalf("an image of %d bytes, not 1158", len(b))
	}
	if !bytes.Equal(b[:1036], first[:1036]) {
		t.Error("the key or the words are others")
	}
	want := []byte{1, 2, 0, 0, 0, 0, 0, 37, 0, 0, 0}
	want = append(want, make([]byte, 64)...)
	want = append(want, 1, 0, 0, 0)
	want = append(want, 1, 8, 0, 0, 0, 0, 0, 0)
	want = append(want, 1, 0, 2, 0, 0, 0, 7)
	want = append(want, 37, 4, 0, 0, 0, 0, 4, 0, 0, 0x78)
	want = append(want, 1, 130, 0, 0, 0)
	want = append(want, 0, 0, 0, 0, 0, 0, 0, 0, 0)
	if !bytes.Equal(b[1036:1154], want) {
		t.Errorf("the core is\n%x, want\n%x", b[1036:1154], want)
	}
}

// P29.2, P29.4, the examples.
func TestExamples(t *testing.T) {
	x := known(t)
	k := x.boot(t)
	first := saved(t, k)
	goesOn(t, x.boot(t), x.load(t, first), slices.Repeat([]int{0}, 30))
	steps(t, k, 0)
	goesOn(t, k, x.load(t, saved(t, k)), slices.Repeat([]int{0}, 30))

	last := slices.Clone(first)
	last[len(last)-1]++
	x.refuses(t, last, api.ErrImageSum, "the last byte changed")
	x.refuses(t, first[:3], api.ErrImageForm, "three bytes")
	recipe{c: x.c, feeds: x.feeds}.refuses(t, first, api.ErrImageBoot, "no programs")
	two := []api.Feed{{Partition: 0, Epoch: 0, Words: []uint32{77, 77}}}
	recipe{c: x.c, programs: x.programs, feeds: two}.refuses(t, first, api.ErrImageBoot, "a feed of two words")
	if b, e := image.Save(nil); len(b) != 0 || e != api.ErrNil {
		t.Errorf("Save(nil): %d bytes, error %d", len(b), e)
	}
}

// goesOn asks that two machines do the same, step by step, and are the same behind each step.
func goesOn(t *testing.T, a, b *kernel.Kernel, picks []int) {
	t.Helper()
	for i, core := range picks {
		if one, another := steps(t, a, core), steps(t, b, core); !reflect.DeepEqual(one, another) {
			t.Fatalf("the step %d, of core %d, tells %v, and on the other machine %v", i, core, one, another)
		}
		if !bytes.Equal(saved(t, a), saved(t, b)) {
			t.Fatalf("behind the step %d, of core %d, the images are unlike", i, core)
		}
	}
}
