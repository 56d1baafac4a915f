package core_test

import (
	"fmt"
	"math/rand/v2"
	"slices"
	"sync"
	"testing"

	"bulkhead/api"
	"bulkhead/core"
	"bulkhead/mem"
	"bulkhead/page"
)

// model is a core reckoned anew: by the bits of words, in wide numbers, with plain lists in the order of use.
type model struct {
	x      api.Context
	lines  [4][]int
	leaves []api.Leaf
	looked []int // the places, tables apart, that the last instruction has read
	wrote  int   // the place that it has written; -1: none
}

// use makes a thing the latest of a list; the first one goes, if there are too many then.
func use[T any](list []T, thing T, same func(T) bool, most int) []T {
	list = append(slices.DeleteFunc(slices.Clone(list), same), thing)
	return list[max(0, len(list)-most):]
}

// masks tells which bits beside the operation's a word may have: by the operation, 0 where it has no operand.
func masks(op uint32) (uint32, bool) {
	const a, b, c, imm = 15 << 22, 15 << 18, 15 << 14, 1<<18 - 1
	switch {
	case op == 1:
		return 0, true
	case op == 2:
		return a | b, true
	case op == 3, op == 4, op == 27:
		return a | imm, true
	case op >= 5 && op <= 17:
		return a | b | c, true
	case op >= 18 && op <= 25:
		return a | b | imm, true
	case op == 26, op == 30:
		return imm, true
	case op == 28, op == 29:
		return a, true
	}
	return 0, false
}

// legal tells whether a word is an instruction.
func legal(w uint32) bool {
	mask, ok := masks(w >> 26)
	return ok && w<<6>>6&^mask == 0
}

// entry tells what an entry names, if the memory has it.
func entry(words []uint32, at int) (frame, rights int, ok bool) {
	w := words[at]
	frame, rights = int(w>>3%1024), int(w%8)
	return frame, rights, w >= 1<<31 && frame < len(words)/16
}

// walked tells a page's leaf by the tables.
func walked(words []uint32, root, p int) (api.Leaf, bool) {
	table, _, ok := entry(words, root*16+p/16)
	if !ok {
		return api.Leaf{}, false
	}
	frame, rights, ok := entry(words, table*16+p%16)
	return api.Leaf{Page: p, Frame: frame, Rights: rights}, ok
}

// reach tells the place of a word of the space, and what the way there costs.
func (k *model) reach(words []uint32, root int, at uint32, right int) (place, cost int, ok bool) {
	if at > 4095 {
		return 0, 0, false
	}
	p := int(at) / 16
	samePage := func(l api.Leaf) bool { return l.Page == p }
	var leaf api.Leaf
	if i := slices.IndexFunc(k.leaves, samePage); i >= 0 {
		leaf = k.leaves[i]
	} else {
		cost = walk
		if leaf, ok = walked(words, root, p); !ok {
			return 0, cost, false
		}
	}
	k.leaves = use(k.leaves, leaf, samePage, 4)
	if leaf.Frame*16 >= len(words) || leaf.Rights/right%2 == 0 {
		return 0, cost, false
	}
	place = leaf.Frame*16 + int(at)%16
	line := place / 4
	set := k.lines[line%4]
	if slices.Contains(set, line) {
		cost += hit
	} else {
		cost += miss
	}
	k.lines[line%4] = use(set, line, func(l int) bool { return l == line }, 2)
	return place, cost, true
}

// step carries one instruction out, on the words.
func (k *model) step(words []uint32, root int, clock uint32) api.Act {
	k.looked, k.wrote = nil, -1
	act := api.Act{Call: -1, PC: k.x.PC}
	at, cost, ok := k.reach(words, root, k.x.PC, 4)
	act.Cost = cost
	if !ok {
		return trapped(act, 1)
	}
	k.looked = append(k.looked, at)
	act.Word = words[at]
	if !legal(act.Word) {
		return trapped(act, 2)
	}
	return k.do(words, root, clock, act)
}

func trapped(act api.Act, trapNumber int) api.Act {
	act.Trap = trapNumber
	act.Cost += trap
	return act
}

// do carries out what the act's word says.
func (k *model) do(words []uint32, root int, clock uint32, act api.Act) api.Act {
	w := act.Word
	op, ra := w>>26, w>>22%16
	a, b, c := k.x.Regs[ra], k.x.Regs[w>>18%16], k.x.Regs[w>>14%16]
	imm := int64(w % (1 << 18))
	if imm >= 1<<17 {
		imm -= 1 << 18
	}
	x := uint32(int64(b) + imm)
	next := k.x.PC + 1
	far := uint32(int64(k.x.PC) + imm)
	own := 1
	put := func(v int64) { k.x.Regs[ra] = uint32(v) }
	switch {
	case op == 2:
		put(int64(b))
	case op == 3:
		put(imm)
	case op == 4:
		put(imm * 16384)
	case op >= 5 && op <= 17:
		v, cost, ok := reckoned(op, b, c)
		if !ok {
			return trapped(act, 5)
		}
		own = cost
		put(v)
	case op == 18:
		put(int64(b) + imm)
	case op == 19 || op == 20:
		at, cost, ok := k.reach(words, root, x, int(op-18))
		act.Cost += cost
		if !ok {
			return trapped(act, int(op-16))
		}
		if op == 19 {
			k.looked = append(k.looked, at)
			act.Read, act.Addr, act.Value = true, x, words[at]
			put(int64(words[at]))
		} else {
			words[at], k.wrote = a, at
		}
	case op >= 21 && op <= 25:
		if taken(op, a, b) {
			next = far
		}
	case op == 26:
		next = far
	case op == 27:
		put(int64(k.x.PC) + 1)
		next = far
	case op == 28:
		next = a
	case op == 29:
		put(int64(clock))
	case op == 30:
		if imm < 0 || imm > 7 {
			return trapped(act, 6)
		}
		act.Call, own = int(imm), hyp
	}
	act.Cost += own
	k.x.PC = next
	return act
}

// reckoned tells what an operation makes of two words, in wide numbers, and its cost.
func reckoned(op, b, c uint32) (int64, int, bool) {
	sb, sc := int64(int32(b)), int64(int32(c))
	away := c % 32
	one := map[bool]int64{true: 1}
	switch op {
	case 5:
		return sb + sc, 1, true
	case 6:
		return sb - sc, 1, true
	case 7:
		return sb * sc, 3, true
	case 8, 9:
		if sc == 0 {
			return 0, 0, false
		}
		if op == 8 {
			return sb / sc, 8, true
		}
		return sb % sc, 8, true
	case 10:
		return sb & sc, 1, true
	case 11:
		return sb | sc, 1, true
	case 12:
		return sb ^ sc, 1, true
	case 13:
		return sb << away, 1, true
	case 14:
		return int64(b) >> away, 1, true
	case 15:
		return sb >> away, 1, true
	case 16:
		return one[sb < sc], 1, true
	}
	return one[b < c], 1, true
}

func taken(op, a, b uint32) bool {
	sa, sb := int64(int32(a)), int64(int32(b))
	return []bool{sa == sb, sa != sb, sa < sb, sa >= sb, a < b}[op-21]
}

func (k *model) held() api.Held {
	return api.Held{Context: k.x, Lines: k.lines[:], Leaves: k.leaves}
}

// holding makes a model and a core that hold alike.
func holding(t *testing.T, h api.Held) (*model, *core.Core) {
	t.Helper()
	k := &model{x: h.Context, leaves: slices.Clone(h.Leaves)}
	for s, list := range h.Lines {
		k.lines[s] = slices.Clone(list)
	}
	return k, restored(t, h)
}

// anyWord draws an instruction, mostly one.
func anyWord(r *rand.Rand) uint32 {
	if r.IntN(20) == 0 {
		return r.Uint32()
	}
	op := uint32(1 + r.IntN(30))
	if r.IntN(3) == 0 {
		op = uint32(19 + r.IntN(2))
	}
	mask, _ := masks(op)
	w := op<<26 | r.Uint32()&mask
	if mask&(1<<13) == 0 || r.IntN(8) == 0 {
		return w
	}
	imm := []int{r.IntN(64) - 32, r.IntN(10) - 1, r.IntN(300), r.IntN(1024), 4096 - r.IntN(3)}[r.IntN(5)]
	return w>>18<<18 | uint32(imm)&(1<<18-1)
}

// anyRegister draws a word that may well be a place of the space.
func anyRegister(r *rand.Rand) uint32 {
	return []uint32{0, 0, 1, r.Uint32N(64), r.Uint32N(768), r.Uint32N(768), r.Uint32N(4096), 4095, 4096, 1 << 31, all, all - r.Uint32N(40), r.Uint32()}[r.IntN(13)]
}

func anyPlaces(r *rand.Rand) api.Context {
	x := api.Context{PC: r.Uint32N(768)}
	if r.IntN(10) == 0 {
		x.PC = anyRegister(r)
	}
	for i := range x.Regs {
		x.Regs[i] = anyRegister(r)
	}
	return x
}

// anyMemory draws words of a memory and its root; pages lie over tables too, some frames are not there.
func anyMemory(r *rand.Rand) ([]uint32, int) {
	n := 4 + r.IntN(17)
	words := make([]uint32, n*16)
	for at := range words {
		words[at] = anyWord(r)
	}
	f := r.Perm(n)
	for i := range 16 {
		words[f[0]*16+i] = 0
		if i < 3 || r.IntN(6) == 0 {
			words[f[0]*16+i] = 1<<31 | uint32(f[1+r.IntN(2)])<<3 | r.Uint32()&0x7FFFE007
		}
		for _, table := range f[1:3] {
			words[table*16+i] = 1<<31 | uint32(r.IntN(n))<<3 | []uint32{7, 7, 7, r.Uint32N(8)}[r.IntN(4)] | r.Uint32()&0x7FFFE000
			if r.IntN(8) == 0 {
				words[table*16+i] = []uint32{r.Uint32() >> 1, 1<<31 | uint32(n)<<3 | 7}[r.IntN(2)]
			}
		}
	}
	return words, f[0]
}

// anyHeld draws a state that a core can have; its leaves are what the tables tell, where true is asked for.
func anyHeld(r *rand.Rand, x api.Context, words []uint32, root int, trueLeaves bool) api.Held {
	h := api.Held{Context: x, Lines: make([][]int, 4)}
	for s := range h.Lines {
		for range r.IntN(3) {
			line := r.IntN(len(words)/16)*4 + s
			if !slices.Contains(h.Lines[s], line) {
				h.Lines[s] = append(h.Lines[s], line)
			}
		}
	}
	for _, p := range r.Perm(48)[:r.IntN(5)] {
		leaf, ok := walked(words, root, p)
		if !trueLeaves {
			leaf, ok = api.Leaf{Page: p, Frame: r.IntN(len(words)/16 + 2), Rights: r.IntN(8)}, true
		}
		if ok {
			h.Leaves = append(h.Leaves, leaf)
		}
	}
	if len(h.Leaves) > 0 && r.IntN(2) == 0 {
		at := r.IntN(len(h.Leaves))
		if p := int(x.PC / 16); !slices.ContainsFunc(h.Leaves, func(l api.Leaf) bool { return l.Page == p }) {
			if leaf, ok := walked(words, root, p%256); ok && p < 256 {
				h.Leaves[at] = leaf
			}
		}
	}
	return h
}

func memoryOf(t *testing.T, words []uint32) *mem.Memory {
	t.Helper()
	m, e := mem.Of(words)
	if e != api.OK {
		t.Fatalf("Of: error %d", e)
	}
	return m
}

// P10.1 to P10.6: long rows of steps over memories without a plan, held against the model.
func TestModel(t *testing.T) {
	traps, calls, kinds := map[int]int{}, map[int]int{}, map[uint32]int{}
	for seed := range uint64(300) {
		r := rand.New(rand.NewPCG(seed, 10))
		words, root := anyMemory(r)
		m := memoryOf(t, words)
		k, c := holding(t, anyHeld(r, anyPlaces(r), words, root, false))
		for range 200 {
			before, clock := slices.Clone(words), r.Uint32()
			x := k.x
			want := k.step(words, root, clock)
			act := steps(t, c, m, root, clock)
			if act != want {
				t.Fatalf("seed %d: %+v, want %+v", seed, act, want)
			}
			if got, want := fmt.Sprint(c.Held()), fmt.Sprint(k.held()); got != want {
				t.Fatalf("seed %d: Held: %s, want %s", seed, got, want)
			}
			if !slices.Equal(m.Words(), words) {
				t.Fatalf("seed %d: the words differ behind %+v", seed, act)
			}
			bounded(t, act, x, c.Context(), before, words)
			traps[act.Trap]++
			calls[act.Call]++
			kinds[act.Word>>26]++
			switch n := r.IntN(40); {
			case n == 0:
				c.Flush()
				k.lines, k.leaves = [4][]int{}, nil
			case n == 1:
				k, c = holding(t, anyHeld(r, k.x, words, root, false))
			case act.Trap != 0 || n == 2:
				x := anyPlaces(r)
				c.Set(x)
				k.x = x
			}
		}
	}
	// The rows are worth something only if they come by all that there is.
	for op := range uint32(30) {
		if kinds[op+1] < 100 {
			t.Errorf("the operation %d came %d times", op+1, kinds[op+1])
		}
	}
	if len(traps) != 7 || len(calls) != 9 {
		t.Errorf("traps %v, calls %v", traps, calls)
	}
}

// bounded asks for P10.6: the cost, and how much has changed.
func bounded(t *testing.T, act api.Act, x, after api.Context, before, words []uint32) {
	t.Helper()
	if act.Cost < 2 || act.Cost > most {
		t.Fatalf("the cost is %d", act.Cost)
	}
	changed := 0
	for i := range x.Regs {
		if x.Regs[i] != after.Regs[i] {
			changed++
		}
	}
	if changed > 1 {
		t.Fatalf("%+v: %d registers have changed", act, changed)
	}
	changed = 0
	for at := range words {
		if words[at] != before[at] {
			changed++
		}
	}
	if changed > 1 || changed == 1 && (act.Word>>26 != 20 || act.Trap != 0) {
		t.Fatalf("%+v: %d words have changed", act, changed)
	}
}

// P10.6: an st that does not trap writes at the place of x by the tables, and x's page has the right to write.
func TestWritesByTheTables(t *testing.T) {
	wrote := 0
	for seed := range uint64(6000) {
		r := rand.New(rand.NewPCG(seed, 11))
		words, root := anyMemory(r)
		m := memoryOf(t, words)
		before := m.Clone()
		x := anyPlaces(r)
		c := restored(t, anyHeld(r, x, words, root, true))
		act := steps(t, c, m, root, 0)
		if act.Trap != 0 || act.Word>>26 != 20 {
			unchanged(t, m, before)
			continue
		}
		wrote++
		imm := int64(int32(act.Word<<14) >> 14)
		at, e := page.Address(before, root, int(uint32(int64(x.Regs[act.Word>>18%16])+imm)), api.RightWrite)
		if e != api.OK {
			t.Fatalf("seed %d: it has written where Address says %d", seed, e)
		}
		unchanged(t, m, before, at)
		if got := read(t, m, at); got != x.Regs[act.Word>>22%16] {
			t.Fatalf("seed %d: the word is %d", seed, got)
		}
	}
	if wrote < 100 {
		t.Errorf("just %d have written", wrote)
	}
}

// P10.7: what TLB and cache hold changes the cost alone, as long as the leaves are what the tables tell.
func TestHeldChangesTheCostAlone(t *testing.T) {
	unlike := 0
	for seed := range uint64(4000) {
		r := rand.New(rand.NewPCG(seed, 12))
		words, root := anyMemory(r)
		x, clock := anyPlaces(r), r.Uint32()
		one, other := memoryOf(t, words), memoryOf(t, words)
		c, d := restored(t, anyHeld(r, x, words, root, true)), restored(t, anyHeld(r, x, words, root, true))
		act, again := steps(t, c, one, root, clock), steps(t, d, other, root, clock)
		if act.Cost != again.Cost {
			unlike++
		}
		act.Cost, again.Cost = 0, 0
		if act != again || c.Context() != d.Context() {
			t.Fatalf("seed %d: %+v, %v and %+v, %v", seed, act, c.Context(), again, d.Context())
		}
		unchanged(t, one, other)
	}
	if unlike < 500 {
		t.Errorf("just %d costs are unlike", unlike)
	}
}

// P10.8: whatever stands in the words that are neither tables nor the one at PC nor the one at x (of an ld), the answer is the same, and so is what is written.
func TestOtherWordsAreNotRead(t *testing.T) {
	for seed := range uint64(3000) {
		r := rand.New(rand.NewPCG(seed, 13))
		words, root := anyMemory(r)
		h := anyHeld(r, anyPlaces(r), words, root, seed%2 == 0)
		clock := r.Uint32()
		k, c := holding(t, h)
		others := scrambled(r, k, words, root, clock)
		d := restored(t, h)
		m, o := memoryOf(t, words), memoryOf(t, others)
		act, again := steps(t, c, m, root, clock), steps(t, d, o, root, clock)
		if act != again || fmt.Sprint(c.Held()) != fmt.Sprint(d.Held()) {
			t.Fatalf("seed %d: %+v, %v and %+v, %v", seed, act, c.Held(), again, d.Held())
		}
		if k.wrote >= 0 {
			if read(t, m, k.wrote) != read(t, o, k.wrote) {
				t.Fatalf("seed %d: what is written differs", seed)
			}
			others[k.wrote] = read(t, o, k.wrote)
		}
		unchanged(t, o, memoryOf(t, others))
	}
}

// scrambled tells the words with all others in the places that the next instruction may not read; the model does it on words of its own.
func scrambled(r *rand.Rand, k *model, words []uint32, root int, clock uint32) []uint32 {
	k.step(slices.Clone(words), root, clock)
	out := slices.Clone(words)
	tables := []int{root}
	for i := range 16 {
		if f, _, ok := entry(words, root*16+i); ok {
			tables = append(tables, f)
		}
	}
	for at := range out {
		if !slices.Contains(tables, at/16) && !slices.Contains(k.looked, at) {
			out[at] ^= r.Uint32() | 1
		}
	}
	return out
}

// P10.5: two cores that hold alike go on alike for long, over memories without a plan.
func TestAlikeForLong(t *testing.T) {
	for seed := range uint64(100) {
		r := rand.New(rand.NewPCG(seed, 14))
		words, root := anyMemory(r)
		one, other := memoryOf(t, words), memoryOf(t, words)
		c := restored(t, anyHeld(r, anyPlaces(r), words, root, false))
		d := restored(t, c.Held())
		for clock := range uint32(60) {
			if act, again := steps(t, c, one, root, clock), steps(t, d, other, root, clock); act != again {
				t.Fatalf("seed %d: %+v and %+v", seed, act, again)
			}
			if clock%10 == 9 {
				x := anyPlaces(r)
				c.Set(x)
				d.Set(x)
			}
		}
		unchanged(t, one, other)
		if fmt.Sprint(c.Held()) != fmt.Sprint(d.Held()) {
			t.Fatalf("seed %d: %v and %v", seed, c.Held(), d.Held())
		}
	}
}

// R7: cores with tables and frames of their own work on one memory at a time, each as if it were alone.
func TestSideBySide(t *testing.T) {
	const cores, rounds = 4, 3000
	m, e := mem.New(cores * 4)
	if e != api.OK {
		t.Fatalf("New: error %d", e)
	}
	for n := range cores {
		f := uint32(n * 4)
		write(t, m, int(f)*16, 1<<31|(f+1)<<3)
		write(t, m, int(f+1)*16, 1<<31|(f+2)<<3|7)
		write(t, m, int(f+1)*16+1, 1<<31|(f+3)<<3|3)
		// addi r1, r1, n + 1; st r1, r0, 16; ld r2, r0, 16; jmp -3
		for i, w := range []uint32{18<<26 | 1<<22 | 1<<18 | uint32(n+1), 20<<26 | 1<<22 | 16, 19<<26 | 2<<22 | 16, 26<<26 | 1<<18 - 3} {
			write(t, m, int(f+2)*16+i, w)
		}
	}
	var all [cores]*core.Core
	var wait sync.WaitGroup
	for n := range all {
		all[n] = core.New()
		wait.Go(func() {
			for range 4 * rounds {
				all[n].Step(m, n*4, 0)
			}
		})
	}
	wait.Wait()
	for n, c := range all {
		want := uint32(rounds * (n + 1))
		if x := c.Context(); x.Regs[1] != want || x.Regs[2] != want || x.PC != 0 || read(t, m, (n*4+3)*16) != want {
			t.Errorf("core %d: %v, want %d", n, x, want)
		}
	}
}
