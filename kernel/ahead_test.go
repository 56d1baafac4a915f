package kernel_test

import (
	"math/rand/v2"
	"slices"
	"sync"
	"testing"

	"bulkhead/api"
	"bulkhead/kernel"
)

// aheads lets a core go ahead, which must go well.
func aheads(t *testing.T, k *kernel.Kernel, core int) []api.Turn {
	t.Helper()
	turns, e := k.Ahead(core)
	if e != api.OK {
		t.Fatalf("Ahead(%d): error %d", core, e)
	}
	return turns
}

// byHand steps a core as long as its mode is run.
func byHand(t *testing.T, k *kernel.Kernel, core int) []api.Turn {
	t.Helper()
	var turns []api.Turn
	for k.Cores()[core].Mode == api.ModeRun {
		turns = append(turns, steps(t, k, core))
	}
	return turns
}

// sideBySide lets all cores go ahead at one time.
func sideBySide(t *testing.T, k *kernel.Kernel, cores int) [][]api.Turn {
	t.Helper()
	turns, errors := make([][]api.Turn, cores), make([]api.Errno, cores)
	var all sync.WaitGroup
	for core := range cores {
		all.Go(func() { turns[core], errors[core] = k.Ahead(core) })
	}
	all.Wait()
	for core, e := range errors {
		if e != api.OK {
			t.Fatalf("Ahead(%d) beside others: error %d", core, e)
		}
	}
	return turns
}

// P26.4, the example: one step, behind which the mode is call; then none.
func TestAheadOfExample(t *testing.T) {
	k := known(t).boot(t)
	if turns := aheads(t, k, 0); !same(turns, []api.Turn{{Kind: api.TurnRun}}) {
		t.Errorf("Ahead: %+v", turns)
	}
	for k.Epoch() < 2 {
		mode := k.Cores()[0].Mode
		if mode == api.ModeRun {
			steps(t, k, 0)
			continue
		}
		before, words := k.States(), k.Memory()
		if turns := aheads(t, k, 0); len(turns) != 0 || !same(k.States(), before) {
			t.Errorf("Ahead in mode %d: %+v", mode, turns)
		}
		for at := range k.Memory().Differ(words) {
			t.Errorf("Ahead in mode %d wrote the word %d", mode, at)
		}
		steps(t, k, 0)
	}
}

// P26.4: a core that calls nothing goes ahead up to the frame's end, through all its windows.
func TestAheadThroughWindows(t *testing.T) {
	r := recipeOf(t, `
		memory 12
		major 400
		kernel 2 8
		partition a entry 0 action halt restarts 0 inputs 0 outputs 0
		  region 0 1 0 rwx
		partition b entry 1 action warm restarts 1 inputs 0 outputs 0
		  region 0 1 1 rwx
		core
		  window 0 20 82
		  window none 14 82
		  window 1 20 182
		end`, "jmp 0", "nop\ndiv r1, r1, r1")
	k := r.boot(t)
	var kinds []int
	for _, turn := range aheads(t, k, 0) {
		kinds = append(kinds, turn.Kind)
	}
	// Four jumps end at the cycles 14, 16, 18 and 20; the division ends behind its window's time.
	if want := []int{1, 1, 1, 1, 3, 3, 1, 3}; !slices.Equal(kinds, want) {
		t.Errorf("Ahead: %v, want %v", kinds, want)
	}
	stands(t, k, 0, api.CoreView{Mode: api.ModeArrive, Partition: -1})
	steps(t, k, 0)
	steps(t, k, 0)
	turns := aheads(t, k, 0)
	warm := []api.Event{{Kind: api.EventWarm, Partition: 1, Epoch: 1, Cycle: 198}}
	if last := turns[len(turns)-3]; last.Kind != api.TurnSwitch || !same(last.Events, warm) {
		t.Errorf("Ahead tells %+v, want %+v", last, warm)
	}
}

// P26.4: cores that go ahead tell and leave the same, one behind the other in whatever order, side by side, and step by step.
func TestAhead(t *testing.T) {
	most := 0
	for seed := range uint64(60) {
		r := rand.New(rand.NewPCG(seed, 264))
		made := drawn(t, r)
		cores := len(made.c.Cores)
		k := made.boot(t)
		pick := drawnPicks(r, cores)
		for range r.IntN(1500) {
			steps(t, k, pick())
		}
		for range 12 {
			ways := []*kernel.Kernel{made.again(t, k), made.again(t, k), made.again(t, k)}
			turns := make([][][]api.Turn, len(ways))
			for i := range ways[:2] {
				turns[i] = make([][]api.Turn, cores)
				for _, core := range r.Perm(cores) {
					turns[i][core] = []func(*testing.T, *kernel.Kernel, int) []api.Turn{byHand, aheads}[i](t, ways[i], core)
					most = max(most, len(turns[i][core]))
				}
			}
			turns[2] = sideBySide(t, ways[2], cores)
			for i, n := range ways {
				if !same(turns[i], turns[0]) || !same(n.States(), ways[0].States()) {
					t.Fatalf("seed %d: the way %d tells or leaves other things", seed, i)
				}
				for at := range n.Memory().Differ(ways[0].Memory()) {
					t.Fatalf("seed %d: the way %d leaves another word %d", seed, i, at)
				}
			}
			k = ways[2]
			for range 20 {
				steps(t, k, pick())
			}
		}
	}
	if most < 50 {
		t.Errorf("no core went further than %d steps", most)
	}
}
