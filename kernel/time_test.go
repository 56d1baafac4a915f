package kernel_test

import (
	"slices"
	"strings"
	"testing"

	"bulkhead/api"
	"bulkhead/kernel"
)

// later lets a machine at the beginning of a frame stand in another epoch.
func later(t *testing.T, r recipe, k *kernel.Kernel, epoch int) *kernel.Kernel {
	t.Helper()
	w, s := k.Memory().Words(), k.States()
	w[16*r.c.Kernel+1] = uint32(epoch)
	for i := range s {
		s[i].Epoch = epoch
	}
	return r.restore(t, w, s)
}

// P26.2: the cycle counter is reckoned modulo 2^32, also where the epochs' cycles alone are far more.
func TestCycleCounter(t *testing.T) {
	r := recipeOf(t, `
		memory 8
		major 16384
		kernel 2 6
		partition a entry 0 action halt restarts 0 inputs 0 outputs 0
		  region 0 1 0 rwx
		core
		  window none 18 82
		  window 0 16000 284
		end`, "cyc r1\ncyc r2\njmp -2")
	for _, epoch := range []int{0, 1, 262143, 262144, 262145, 1000003, api.MaxEpoch - 1} {
		k := later(t, r, r.boot(t), epoch)
		plain(t, k, 0, api.TurnSwitch)
		first := uint32(uint64(epoch) * 16384 % (1 << 32))
		for i, behind := range []uint32{100, 114, 118} {
			turn := steps(t, k, 0)
			if got := turn.Seen[0].After.Regs[1+i%2]; got != first+behind {
				t.Errorf("epoch %d: the counter is %d, want %d", epoch, got, first+behind)
			}
			if i > 0 {
				steps(t, k, 0)
			}
		}
	}
}

// P26.2: the last frame of all: both cores come to their end, and stay there.
func TestEnd(t *testing.T) {
	r := shared(t)
	k := later(t, r, r.boot(t), api.MaxEpoch-1)
	var epochs []api.Event
	for i := range 400 {
		for _, x := range steps(t, k, i%2).Events {
			if x.Kind == api.EventEpoch {
				epochs = append(epochs, x)
			}
		}
	}
	if want := []api.Event{{Kind: api.EventEpoch, Partition: -1, Epoch: api.MaxEpoch}}; !slices.Equal(epochs, want) {
		t.Errorf("the epochs that begin: %+v, want %+v", epochs, want)
	}
	end := api.CoreView{Epoch: api.MaxEpoch, Mode: api.ModeEnd, Partition: -1}
	before, words := k.States(), k.Memory().Words()
	for core := range 2 {
		stands(t, k, core, end)
		plain(t, k, core, api.TurnBlocked)
		if turns := aheads(t, k, core); len(turns) != 0 {
			t.Errorf("Ahead at the end: %+v", turns)
		}
	}
	if k.Epoch() != api.MaxEpoch || !same(k.States(), before) || !slices.Equal(k.Memory().Words(), words) {
		t.Errorf("at the end: epoch %d, %+v", k.Epoch(), k.States())
	}
	n := r.again(t, k)
	plain(t, n, 1, api.TurnBlocked)
}

// P26.2: the words told to devices are 0 again in the next frame, of the partitions on the core that leaves alone, and ahead of the loading.
func TestOutsOfFrame(t *testing.T) {
	r := shared(t)
	k := r.boot(t)
	w, s := k.Memory().Words(), k.States()
	w[64], w[65] = 0, 1
	w[89], w[113] = 2, 3
	for i := range s {
		s[i] = api.CoreState{Mode: api.ModeWait}
	}
	k = r.restore(t, w, s)
	plain(t, k, 0, api.TurnLeave)
	if p := k.Partitions(); p[0].Outs != 0 || p[1].Outs != 3 {
		t.Errorf("behind the leaving of core 0: %+v", p)
	}
	plain(t, k, 1, api.TurnLeave)
	if p := k.Partitions(); p[1].Outs != 0 {
		t.Errorf("behind the leaving of core 1: %+v", p)
	}
}

// P26.2: locks whose tickets come round the end of all numbers.
func TestTicketsComeRound(t *testing.T) {
	r := shared(t)
	k := r.boot(t)
	w, s := k.Memory().Words(), k.States()
	for _, at := range []int{66, 90, 114, 138, 152} {
		w[at], w[at+1] = 1<<32-1, 1<<32-1
	}
	n := r.restore(t, w, s)
	for i := range 600 {
		core := i / 3 % 2
		tells(t, n, steps(t, k, core))
	}
	if w := n.Memory().Words(); w[66] == 1<<32-1 || w[66] > 100 || w[138] == 1<<32-1 {
		t.Errorf("the locks are %d and %d", w[66], w[138])
	}
}

// P26.2, P26.3: a partition that traps, is begun anew, and is halted at last, on a core that it shares; a cold one loses its words, and the saved registers stay till the switch.
func TestTraps(t *testing.T) {
	config := `
		memory 12
		major 400
		kernel 2 8
		partition a entry 1 action %s restarts 1 inputs 0 outputs 0
		  region 0 1 0 rwx
		partition b entry 0 action halt restarts 0 inputs 0 outputs 0
		  region 0 1 1 rwx
		core
		  window 1 18 82
		  window 0 100 200
		end`
	for _, action := range []string{"warm", "cold"} {
		r := recipeOf(t, strings.Replace(config, "%s", action, 1), "word 5\nli r1, 9\nst r1, r0, 0\nld r2, r1, 4095", "jmp 0")
		kind := map[string]int{"warm": api.EventWarm, "cold": api.EventCold}[action]
		k := r.boot(t)
		upTo(t, k, 0, api.TurnSwitch)
		steps(t, k, 0)
		steps(t, k, 0)
		trap := api.Event{Kind: api.EventTrap, Cycle: 128, Trap: api.TrapLoad}
		seen := api.Seen{Cycle: 128, PC: 3, Word: 0x4C840FFF, Trap: api.TrapLoad, After: context(3, 9)}
		tells(t, k, api.Turn{Kind: api.TurnRun, Seen: []api.Seen{seen}, Events: []api.Event{trap}})
		if p := k.Partitions()[0]; p != (api.Status{State: api.StateRestart, Trap: api.TrapLoad, PC: 3}) {
			t.Errorf("%s: behind the trap: %+v", action, p)
		}
		// The memory keeps what was written till it is laid anew.
		atWord(t, k, 0, 9)
		plain(t, k, 0, api.TurnSwitch)
		steps(t, k, 0)
		plain(t, k, 0, api.TurnLeave)
		turn := upTo(t, k, 0, api.TurnSwitch)
		if want := []api.Event{{Kind: kind, Epoch: 1, Cycle: 100}}; !slices.Equal(turn.Events, want) {
			t.Errorf("%s: %+v, want %+v", action, turn.Events, want)
		}
		atWord(t, k, 0, map[string]uint32{"warm": 9, "cold": 5}[action])
		atWord(t, k, 37, 9) // register 1 of the saved ones
		stands(t, k, 0, api.CoreView{Epoch: 1, Window: 1, Mode: api.ModeRun, Context: context(1)})
		steps(t, k, 0)
		steps(t, k, 0)
		trap.Epoch, seen.Epoch = 1, 1
		halt := trap
		halt.Kind = api.EventHalt
		tells(t, k, api.Turn{Kind: api.TurnRun, Seen: []api.Seen{seen}, Events: []api.Event{trap, halt}})
		if p := k.Partitions()[0]; p != (api.Status{State: api.StateHalted, Restarts: 1, Trap: api.TrapLoad, PC: 3}) {
			t.Errorf("%s: behind the last trap: %+v", action, p)
		}
		plain(t, k, 0, api.TurnSwitch)
		if p := k.Partitions()[1]; p.State != api.StateReady {
			t.Errorf("%s: the other one: %+v", action, p)
		}
	}
}

// upTo steps a core up to a turn of a kind, which is told.
func upTo(t *testing.T, k *kernel.Kernel, core, kind int) api.Turn {
	t.Helper()
	for range 1000 {
		if turn := steps(t, k, core); turn.Kind == kind {
			return turn
		}
	}
	t.Fatalf("the core %d comes to no turn of the kind %d", core, kind)
	return api.Turn{}
}

// atWord asks for a word of the memory.
func atWord(t *testing.T, k *kernel.Kernel, at int, want uint32) {
	t.Helper()
	if got, _ := k.Memory().Read(at); got != want {
		t.Errorf("the word %d is %d, want %d", at, got, want)
	}
}
