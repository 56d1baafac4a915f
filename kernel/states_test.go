package kernel_test

import (
	"math"
	"math/rand/v2"
	"slices"
	"testing"

	"bulkhead/api"
	"bulkhead/kernel"
	"bulkhead/layout"
)

// scene is the machine of shared at some place: its words and the states of its two cores.
type scene struct {
	w []uint32
	s []api.CoreState
}

// copied makes one that has nothing in common with it.
func (x scene) copied() scene {
	out := scene{w: slices.Clone(x.w)}
	for _, s := range x.s {
		out.s = append(out.s, copiedState(s))
	}
	return out
}

func copiedState(s api.CoreState) api.CoreState {
	s.Chain, s.Tickets, s.Held.Leaves = slices.Clone(s.Chain), slices.Clone(s.Tickets), slices.Clone(s.Held.Leaves)
	s.Held.Lines = slices.Clone(s.Held.Lines)
	for i, set := range s.Held.Lines {
		s.Held.Lines[i] = slices.Clone(set)
	}
	return s
}

// behindSteps plays the machine of shared so far: core 0 so many steps, then core 1.
func behindSteps(t *testing.T, zero, one int) scene {
	t.Helper()
	k := shared(t).boot(t)
	for range zero {
		steps(t, k, 0)
	}
	for range one {
		steps(t, k, 1)
	}
	return scene{w: k.Memory().Words(), s: k.States()}
}

// The scenes, by how far the cores have come.
func runs(t *testing.T) scene    { return behindSteps(t, 0, 0) }  // core 0 in nobody's window
func own(t *testing.T) scene     { return behindSteps(t, 2, 1) }  // both in mode run, in a partition's window
func waiting(t *testing.T) scene { return behindSteps(t, 7, 5) }  // core 0 has both locks, core 1 waits for the second one
func sent(t *testing.T) scene    { return behindSteps(t, 8, 5) }  // core 0 has carried the call out
func back(t *testing.T) scene    { return behindSteps(t, 9, 5) }  // and has given the channel's lock back
func telling(t *testing.T) scene { return behindSteps(t, 15, 2) } // core 0 tells its device a word, core 1 has begun a call

// The places of shared's words are as its remark says.
func TestPlaces(t *testing.T) {
	l, e := layout.Of(shared(t).c)
	if e != api.OK {
		t.Fatalf("layout.Of: error %d", e)
	}
	p, h := l.Partitions, l.Channels
	got := []int{l.Barrier, p[0].Lock, p[1].Lock, p[2].Lock, p[0].Save, p[1].Save, p[2].Save, p[0].State, p[1].State, p[2].State, h[0].Lock, h[0].Stage, h[0].Dests[0].At, h[1].Lock, h[1].Stage, h[1].Dests[0].At, h[1].Dests[1].At, p[0].Root, p[1].Root, p[2].Root, l.End}
	want := []int{64, 66, 90, 114, 68, 92, 116, 85, 109, 133, 138, 140, 145, 152, 154, 158, 163, 11, 13, 16, 18}
	if !slices.Equal(got, want) {
		t.Errorf("the places are %d, want %d", got, want)
	}
	x := waiting(t)
	if s := x.s[0]; s.Mode != api.ModeCall || s.Act.Call != api.CallSend || s.Locks != 2 || s.Done || !slices.Equal(s.Chain, []int{66, 138}) || s.Used != 39 || s.Act.Cost != 25 {
		t.Errorf("core 0: %+v", s)
	}
	if s := x.s[1]; s.Mode != api.ModeCall || s.Act.Call != api.CallReceive || s.Locks != 1 || !s.Asked || !slices.Equal(s.Chain, []int{90, 138}) || !slices.Equal(s.Tickets, []uint32{0, 1}) {
		t.Errorf("core 1: %+v", s)
	}
	if s := telling(t).s[0]; !s.Done || !s.Tells || s.Act.Call != api.CallOutput {
		t.Errorf("core 0 tells its device: %+v", s)
	}
}

// change changes a scene's words and states.
type change func(w []uint32, s []api.CoreState)

// row is a change, and whether what comes of it may be.
type row struct {
	what string
	do   change
	may  bool
}

// asked holds rows against what Restore says of them; a machine that may be goes on.
func asked(t *testing.T, from scene, rows []row) {
	t.Helper()
	made := shared(t)
	if k, e := kernel.Restore(made.c, made.programs, made.feeds, from.w, from.s); k == nil || e != api.OK {
		t.Fatalf("unchanged: error %d", e)
	}
	for i, r := range rows {
		x := from.copied()
		r.do(x.w, x.s)
		k, e := kernel.Restore(made.c, made.programs, made.feeds, x.w, x.s)
		if !r.may {
			if k != nil || e != api.ErrKernelState {
				t.Errorf("%d, %s: error %d, want %d", i, r.what, e, api.ErrKernelState)
			}
			continue
		}
		if k == nil || e != api.OK {
			t.Errorf("%d, %s: error %d, but it may be", i, r.what, e)
			continue
		}
		tellsAll(t, k, x)
		goesOn(t, made, k, rand.New(rand.NewPCG(uint64(i), 265)), 60)
	}
}

// tellsAll asks that a machine tells the words and states of which it was made.
func tellsAll(t *testing.T, k *kernel.Kernel, x scene) {
	t.Helper()
	if !slices.Equal(k.Memory().Words(), x.w) {
		t.Error("other words than it was made of")
	}
	for i, got := range k.States() {
		want := copiedState(x.s[i])
		if len(want.Held.Lines) == 0 {
			want.Held.Lines = make([][]int, api.Sets)
		}
		if !same(got, want) {
			t.Errorf("the core %d is %+v, want %+v", i, got, want)
		}
	}
}

// goesOn asks that no step is refused, that each state may be, and that some core is not blocked till all are at their end (P26.7, P26.8).
func goesOn(t *testing.T, made recipe, k *kernel.Kernel, r *rand.Rand, many int) {
	t.Helper()
	for i := range many {
		steps(t, k, r.IntN(len(made.c.Cores)))
		n := made.again(t, k)
		if i%8 > 0 {
			continue
		}
		stuck, over := true, true
		for core, v := range n.Cores() {
			over = over && v.Mode == api.ModeEnd
			stuck = stuck && steps(t, made.again(t, n), core).Kind == api.TurnBlocked
		}
		if stuck != over {
			t.Fatalf("all are blocked: %v, all are at their end: %v: %+v", stuck, over, n.States())
		}
		k = n
	}
}

// set makes a change that writes words from a place on.
func set(at int, words ...uint32) change {
	return func(w []uint32, s []api.CoreState) { copy(w[at:], words) }
}

// of makes a change of one core's state.
func of(core int, do func(s *api.CoreState)) change {
	return func(w []uint32, s []api.CoreState) { do(&s[core]) }
}

// all makes one of several.
func all(changes ...change) change {
	return func(w []uint32, s []api.CoreState) {
		for _, c := range changes {
			c(w, s)
		}
	}
}

// in makes a core stand in a mode and an epoch, with all else zero.
func in(core, mode, epoch int) change {
	return of(core, func(s *api.CoreState) { *s = api.CoreState{Mode: mode, Epoch: epoch} })
}

// running makes a core stand in mode run at the beginning of core 1's or nobody's window, in an epoch.
func running(core, epoch int) change {
	return of(core, func(s *api.CoreState) { s.Epoch = epoch })
}

// 'Which states may be', 1: as many words and states; the tables.
func TestWordsAndTables(t *testing.T) {
	made, x := shared(t), sent(t)
	refused := func(what string, w []uint32, s []api.CoreState) {
		t.Helper()
		if k, e := kernel.Restore(made.c, made.programs, made.feeds, w, s); k != nil || e != api.ErrKernelState {
			t.Errorf("%s: error %d", what, e)
		}
	}
	refused("no words", nil, x.s)
	refused("one word less", x.w[:383], x.s)
	refused("one frame less", x.w[:368], x.s)
	refused("one word more", append(slices.Clone(x.w), 0), x.s)
	refused("one frame more", append(slices.Clone(x.w), make([]uint32, 16)...), x.s)
	refused("far too many words", append(slices.Clone(x.w), make([]uint32, 16384)...), x.s)
	refused("no states", x.w, nil)
	refused("one state", x.w, x.s[:1])
	refused("three states", x.w, append(slices.Clone(x.s), x.s[1]))
	refused("nothing", nil, nil)
	for at := 11 * 16; at < 18*16; at++ {
		for _, bit := range []int{0, 3, 13, 31} {
			w := slices.Clone(x.w)
			w[at] ^= 1 << bit
			refused("a table's word", w, x.s)
		}
	}
	// Words of regions, of saved registers, and those that nobody has.
	var rows []row
	for _, at := range []int{0, 15, 16, 31, 32, 47, 48, 63, 68, 84, 92, 108, 116, 132, 168, 175, 288, 319, 320, 335, 336, 383} {
		rows = append(rows, row{"a word that may be any", set(at, 0x80000005), true})
	}
	asked(t, x, rows)
}

// 'Which states may be', 2: the barrier, the epochs, the modes.
func TestEpochs(t *testing.T) {
	const last = api.MaxEpoch
	both := func(epoch int) change { return all(running(0, epoch), running(1, epoch)) }
	ends := all(in(0, api.ModeEnd, last), in(1, api.ModeEnd, last))
	asked(t, runs(t), []row{
		{"the barrier is one ahead", set(65, 1), false},
		{"all are one ahead of it", both(1), false},
		{"one is ahead of it", running(1, 1), false},
		{"all are further", all(set(65, 7), both(7)), true},
		{"the last frame", all(set(65, last-1), both(last-1)), true},
		{"behind the last frame", all(set(65, last), both(last)), false},
		{"negative", all(set(65, math.MaxUint32), both(-1)), false},
		{"the end", all(set(65, last), ends), true},
		{"the end, one has come", all(set(64, 1, last), ends), false},
		{"the end, too early", all(set(65, last-1), in(0, api.ModeEnd, last-1), running(1, last-1)), false},
		{"the end, with another epoch", all(set(65, last), ends, in(0, api.ModeEnd, last-1)), false},
		{"behind the end", all(set(65, last+1), in(0, api.ModeEnd, last+1), in(1, api.ModeEnd, last+1)), false},
		{"behind the end, the cores at it", all(set(65, last+1), ends), false},
		{"behind the end, they wait", all(set(65, last+1), in(0, api.ModeWait, last), in(1, api.ModeWait, last)), false},
		{"one is at the end", all(set(65, last), in(0, api.ModeEnd, last), in(1, api.ModeWait, last-1)), true},
		{"both are about to end", all(set(65, last), in(0, api.ModeWait, last-1), in(1, api.ModeWait, last-1)), true},
		{"it waits for what never comes", all(set(64, 1, last), in(0, api.ModeEnd, last), in(1, api.ModeWait, last)), false},
		{"it arrives behind the last frame", all(set(65, last), in(0, api.ModeEnd, last), in(1, api.ModeArrive, last)), false},
		{"one has come, but nobody waits", set(64, 1), false},
		{"many have come", set(64, math.MaxUint32), false},
		{"it arrives", in(0, api.ModeArrive, 0), true},
		{"both arrive", all(in(0, api.ModeArrive, 0), in(1, api.ModeArrive, 0)), true},
		{"it arrives, another epoch", in(0, api.ModeArrive, 1), false},
		{"it arrives, an epoch ago", all(set(65, 1), in(0, api.ModeArrive, 0), running(1, 1)), false},
		{"it waits", all(set(64, 1), in(0, api.ModeWait, 0)), true},
		{"it waits, one arrives", all(set(64, 1), in(0, api.ModeWait, 0), in(1, api.ModeArrive, 0)), true},
		{"it waits, and has not come", in(0, api.ModeWait, 0), false},
		{"it waits, and two have come", all(set(64, 2), in(0, api.ModeWait, 0)), false},
		{"both wait for one another", all(set(64, 2), in(0, api.ModeWait, 0), in(1, api.ModeWait, 0)), false},
		{"both wait, one has come", all(set(64, 1), in(0, api.ModeWait, 0), in(1, api.ModeWait, 0)), false},
		{"it is about to leave", all(set(65, 1), in(0, api.ModeWait, 0), running(1, 1)), true},
		{"it is about to leave, and has come", all(set(64, 1, 1), in(0, api.ModeWait, 0), running(1, 1)), false},
		{"both are about to leave", all(set(65, 1), in(0, api.ModeWait, 0), in(1, api.ModeWait, 0)), true},
		{"one is about to leave, one has come", all(set(64, 1, 1), in(0, api.ModeWait, 0), in(1, api.ModeWait, 1)), true},
		{"it waits two epochs ago", all(set(65, 2), in(0, api.ModeWait, 0), running(1, 2)), false},
		{"it waits ahead", all(set(65, 1), in(0, api.ModeWait, 2), running(1, 1)), false},
		{"it waits ahead of all", in(0, api.ModeWait, -1), false},
		{"no mode", of(0, func(s *api.CoreState) { s.Mode = 0 }), false},
		{"no mode", of(1, func(s *api.CoreState) { s.Mode = 6 }), false},
		{"no mode", of(1, func(s *api.CoreState) { s.Mode = -1 }), false},
		{"no mode, all zero", in(0, 0, 0), false},
	})
}

// 'Which states may be', 3: the partitions' states, also of one without a window.
func TestPartitionsStates(t *testing.T) {
	asked(t, own(t), []row{
		{"yielded", set(85, 1), true},
		{"halted", set(109, 3), true},
		{"no state", set(85, 4), false},
		{"no state, great", set(133, math.MaxUint32), false},
		{"to be begun anew", set(85, 2, 1), true},
		{"to be begun anew too often", set(85, 2, 2), false},
		{"to be begun anew, cold", set(109, 2, 0), true},
		{"to be begun anew, but it is halted by a trap", set(133, 2), false},
		{"most restarts", set(85, 0, 2), true},
		{"too many restarts", set(85, 0, 3), false},
		{"too many restarts", set(133, 0, 1), false},
		{"a trap", set(85, 0, 1, 6, 4096), true},
		{"no trap", set(85, 0, 1, 7, 0), false},
		{"no trap, but a PC", set(109, 0, 0, 0, 1), false},
		{"most words told", set(85, 0, 0, 0, 0, 2), true},
		{"too many words told", set(85, 0, 0, 0, 0, 3), false},
		{"too many words told", set(133, 0, 0, 0, 0, 1), false},
		{"all at once", all(set(85, 3, 2, 5, 9, 2), set(109, 1, 1, 1, 7, 3), set(133, 3, 0, 2, 0, 0)), true},
	})
}

// 'Which states may be', 4: stages and ports.
func TestStagesAndPorts(t *testing.T) {
	asked(t, own(t), []row{
		{"a stage with a message", set(140, 1, 1, 9), true},
		{"a full stage", set(140, 2, 1, 9, 1, 0), true},
		{"a stage with three", set(140, 3, 1, 9, 1, 8), false},
		{"a message of no words", set(140, 1), false},
		{"a message too long", set(140, 1, 2, 9), false},
		{"a word behind the messages", set(143, 1), false},
		{"a port with a message", set(145, 1, 1, 0, 0, 0, 1, 9), true},
		{"a port that has lost many", set(147, math.MaxUint32), true},
		{"a first place of none", set(145, 1), false},
		{"a first place too far", set(145, 2, 1, 0, 1, 9), false},
		{"a message in another place", set(145, 0, 1, 0, 0, 0, 1, 9), false},
		{"a sampling stage", set(154, 1, 2, 5, 6), true},
		{"a short message", set(154, 1, 1, 5), true},
		{"a word behind it", set(154, 1, 1, 5, 6), false},
		{"twice there", set(154, 2, 1, 5), false},
		{"not there, but a word", set(157, 5), false},
		{"a sampling port", set(158, 1, 1, 2, 5, 6), true},
		{"not fresh", set(163, 1, 0, 2, 5, 6), true},
		{"fresh, but not there", set(159, 1), false},
		{"fresher than fresh", set(163, 1, 2, 2, 5, 6), false},
		{"a length too great", set(163, 1, 1, 3, 5, 6), false},
		{"the last word of the last port", set(167, 1), false},
	})
}

// lines makes a change of the lines that a core holds, leaves one of its leaves.
func lines(core int, lines ...[]int) change {
	return of(core, func(s *api.CoreState) { s.Held.Lines = lines })
}

func leaves(core int, leaves ...api.Leaf) change {
	return of(core, func(s *api.CoreState) { s.Held.Leaves = leaves })
}

// window makes a change of where a core stands.
func window(core, window, used int) change {
	return of(core, func(s *api.CoreState) { s.Window, s.Used = window, used })
}

// 'Which states may be', 5: windows and what cores hold.
func TestHeld(t *testing.T) {
	asked(t, own(t), []row{
		{"no window", window(0, -1, 0), false},
		{"no window", window(0, 3, 0), false},
		{"no window", window(1, 1, 0), false},
		{"no window, great", window(0, math.MaxInt, 0), false},
		{"no window, small", window(0, math.MinInt, 0), false},
		{"its last cycle", window(0, 1, 236), true},
		{"behind its last cycle", window(0, 1, 237), false},
		{"ahead of its first cycle", window(0, 1, -1), false},
		{"its first cycle", window(0, 1, 0), true},
		{"the short window's last cycle", window(0, 2, 46), true},
		{"behind the short window's last cycle", window(0, 2, 47), false},
		{"far behind", window(0, 1, math.MaxInt), false},
		{"nobody's window, with what is held", window(0, 0, 0), false},
		{"no lists", lines(0), true},
		{"lists of none", lines(0, nil, nil, []int{}, nil), true},
		{"three lists", lines(0, nil, nil, nil), false},
		{"five lists", lines(0, nil, nil, nil, nil, nil), false},
		{"the last line", lines(0, nil, nil, nil, []int{95}), true},
		{"two of each set", lines(0, []int{92, 0}, []int{1, 5}, []int{94, 2}, []int{95, 3}), true},
		{"behind the last line", lines(0, []int{96}, nil, nil, nil), false},
		{"behind the last line, behind others", lines(0, []int{0}, nil, []int{2, 98}, nil), false},
		{"the last line of the greatest memory", lines(0, nil, nil, nil, []int{4095}), false},
		{"a line of another set", lines(0, []int{1}, nil, nil, nil), false},
		{"a line twice", lines(0, []int{4, 4}, nil, nil, nil), false},
		{"three lines", lines(0, []int{4, 8, 12}, nil, nil, nil), false},
		{"a line below 0", lines(0, []int{-4}, nil, nil, nil), false},
		{"no leaves", leaves(0), true},
		{"both its leaves", leaves(0, api.Leaf{Page: 1, Frame: 19, Rights: 7}, api.Leaf{Page: 0, Frame: 18, Rights: 7}), true},
		{"a leaf twice", leaves(0, api.Leaf{Page: 1, Frame: 19, Rights: 7}, api.Leaf{Page: 1, Frame: 19, Rights: 7}), false},
		{"another frame", leaves(0, api.Leaf{Page: 1, Frame: 18, Rights: 7}), false},
		{"other rights", leaves(0, api.Leaf{Page: 1, Frame: 19, Rights: 5}), false},
		{"no such page", leaves(0, api.Leaf{Page: 2, Frame: 20, Rights: 7}), false},
		{"another one's page", leaves(0, api.Leaf{Page: 16, Frame: 1, Rights: 3}), false},
		{"its own page", leaves(1, api.Leaf{Page: 16, Frame: 1, Rights: 3}), true},
		{"another one's frame", leaves(1, api.Leaf{Page: 0, Frame: 18, Rights: 7}), false},
		{"a page behind the space", leaves(1, api.Leaf{Page: 256, Frame: 1, Rights: 3}), false},
		{"a page below 0", leaves(1, api.Leaf{Page: -1, Frame: 1, Rights: 3}), false},
		{"any context", of(1, func(s *api.CoreState) { s.Held.Context = context(math.MaxUint32, math.MaxUint32) }), true},
	})
}

// 'Which states may be', 5: nothing is held in a window that is nobody's.
func TestNobodysWindow(t *testing.T) {
	asked(t, runs(t), []row{
		{"no lists", lines(0), true},
		{"used", window(0, 0, 1), false},
		{"used, negative", window(0, 0, -1), false},
		{"another window", window(0, 1, 0), true},
		{"a line", lines(0, []int{0}, nil, nil, nil), false},
		{"a leaf", leaves(0, api.Leaf{Frame: 18, Rights: 7}), false},
		{"a PC", of(0, func(s *api.CoreState) { s.Held.Context.PC = 1 }), false},
		{"a register", of(0, func(s *api.CoreState) { s.Held.Context.Regs[15] = 1 }), false},
		{"a call", of(0, func(s *api.CoreState) {
			s.Mode, s.Used, s.Held.Context.PC = api.ModeCall, 37, 1
			s.Act, s.Chain = api.Act{Cost: 37, Call: 6, Word: 0x78000006}, []int{66}
		}), false},
	})
}

// unused makes the rows of fields that say something of a call where there is none.
func unused(core int, also ...change) []row {
	var rows []row
	for _, do := range []func(s *api.CoreState){
		func(s *api.CoreState) { s.Act.Cost = 2 },
		func(s *api.CoreState) { s.Act.Trap = api.TrapLoad },
		func(s *api.CoreState) { s.Act.Call = -1 },
		func(s *api.CoreState) { s.Act.PC = 1 },
		func(s *api.CoreState) { s.Act.Word = 1 },
		func(s *api.CoreState) { s.Act.Read = true },
		func(s *api.CoreState) { s.Act.Addr = 1 },
		func(s *api.CoreState) { s.Act.Value = 1 },
		func(s *api.CoreState) { s.Chain = []int{66} },
		func(s *api.CoreState) { s.Locks = 1 },
		func(s *api.CoreState) { s.Asked = true },
		func(s *api.CoreState) { s.Tickets = []uint32{0} },
		func(s *api.CoreState) { s.Done = true },
		func(s *api.CoreState) { s.Tells = true },
		func(s *api.CoreState) { s.Word = 1 },
	} {
		rows = append(rows, row{"a field that is not used", all(append(slices.Clone(also), of(core, do))...), false})
	}
	return append(rows, row{"lists of none", all(append(slices.Clone(also), of(core, func(s *api.CoreState) {
		s.Chain, s.Tickets, s.Held.Lines = []int{}, []uint32{}, [][]int{}
	}))...), true})
}

// 'Which states may be': fields that are not used are zero.
func TestUnusedFields(t *testing.T) {
	asked(t, runs(t), unused(0))
	asked(t, own(t), unused(0))
	for _, mode := range [][]change{
		{in(1, api.ModeArrive, 0)},
		{in(1, api.ModeWait, 0), set(64, 1)},
		{in(0, api.ModeEnd, api.MaxEpoch), in(1, api.ModeEnd, api.MaxEpoch), set(65, api.MaxEpoch)},
	} {
		rows := unused(1, mode...)
		for _, do := range []change{
			window(1, 1, 0), window(1, 0, 1), window(1, -1, 0), lines(1, nil, []int{1}, nil, nil), lines(1, nil), lines(1, nil, nil, nil, nil, nil),
			leaves(1, api.Leaf{Frame: 20, Rights: 7}),
			of(1, func(s *api.CoreState) { s.Held.Context.PC = 1 }),
			of(1, func(s *api.CoreState) { s.Held.Context.Regs[0] = 1 }),
		} {
			rows = append(rows, row{"something is held, or a window", all(append(slices.Clone(mode), do)...), false})
		}
		asked(t, runs(t), append(rows, row{"lists of none", all(append(slices.Clone(mode), lines(1, nil, nil, nil, nil))...), true}))
	}
}

// act makes a change of what core 0's call has begun with.
func act(do func(a *api.Act)) change { return of(0, func(s *api.CoreState) { do(&s.Act) }) }

// spent makes a change of what core 0's call has cost, and how far it is.
func spent(cost, used int) change {
	return of(0, func(s *api.CoreState) { s.Act.Cost, s.Used = cost, used })
}

// at makes a change of where core 0's call stood.
func at(pc, next uint32) change {
	return of(0, func(s *api.CoreState) { s.Act.PC, s.Held.Context.PC = pc, next })
}

// chain makes a change of core 0's locks.
func chain(locks int, asked bool, tickets []uint32, chain ...int) change {
	return of(0, func(s *api.CoreState) { s.Locks, s.Asked, s.Tickets, s.Chain = locks, asked, tickets, chain })
}

// freed lets core 1 have the lock of channel 0 alone.
func freed(w []uint32, s []api.CoreState) { w[138], w[139] = 2, 1 }

// 'Which states may be', 6: a call's act.
func TestActs(t *testing.T) {
	for _, from := range []func(*testing.T) scene{waiting, sent, back} {
		asked(t, from(t), []row{
			{"another call", act(func(a *api.Act) { a.Call = api.CallReceive }), false},
			{"no call", act(func(a *api.Act) { a.Call = -1 }), false},
			{"no call, with its word", act(func(a *api.Act) { a.Call, a.Word = 8, 0x78000008 }), false},
			{"no call, below", act(func(a *api.Act) { a.Call, a.Word = -1, 0x7803FFFF }), false},
			{"a call far off", act(func(a *api.Act) { a.Call = math.MinInt }), false},
			{"another word", act(func(a *api.Act) { a.Word ^= 1 }), false},
			{"a word that is no call", act(func(a *api.Act) { a.Word = 0x04000000 }), false},
			{"a trap", act(func(a *api.Act) { a.Trap = api.TrapCall }), false},
			{"a trap below none", act(func(a *api.Act) { a.Trap = -1 }), false},
			{"it has read", act(func(a *api.Act) { a.Read = true }), false},
			{"a place", act(func(a *api.Act) { a.Addr = 1 }), false},
			{"a value", act(func(a *api.Act) { a.Value = 1 }), false},
			{"the last word of the space", at(4095, 4096), true},
			{"behind the space", at(4096, 4097), false},
			{"round the end", at(math.MaxUint32, 0), false},
			{"another PC", at(1, 1), false},
			{"the next PC but one", at(1, 3), false},
			{"the least", spent(25, 25), true},
			{"less than the least", spent(24, 25), false},
			{"less than nothing", spent(-1, 25), false},
			{"less than it has cost", spent(25, 24), false},
			{"the least, at last", spent(25, 224), true},
			{"the least, behind that", spent(25, 225), false},
			{"the most", spent(37, 37), true},
			{"more than the most", spent(38, 60), false},
			{"the most, but too early", spent(37, 36), false},
			{"the most, at last", spent(37, 236), true},
			{"the most, behind that", spent(37, 237), false},
			{"far more than the most", spent(math.MaxInt, math.MaxInt), false},
			{"no window", window(0, 3, 39), false},
			{"nobody's window", window(0, 0, 39), false},
			{"another window of its own", window(0, 2, 34), true},
			{"that is over", window(0, 2, 35), false},
			{"a leaf of another", leaves(0, api.Leaf{Page: 16, Frame: 1, Rights: 3}), false},
			{"a line behind the memory", lines(0, []int{96}, nil, nil, nil), false},
			{"no lists", lines(0), true},
		})
	}
}

// 'Which states may be', 6: a call that is not done.
func TestCallsUnderWay(t *testing.T) {
	one := []uint32{0}
	port := func(n uint32) change { return of(0, func(s *api.CoreState) { s.Held.Context.Regs[1] = n }) }
	asked(t, waiting(t), []row{
		{"the partition's lock alone", all(freed, chain(1, false, one, 66)), false},
		{"the partition's lock alone, of no port", all(freed, port(2), chain(1, false, one, 66)), true},
		{"another channel's", all(freed, set(152, 1, 0), chain(2, false, []uint32{0, 0}, 66, 152)), false},
		{"another port", all(freed, port(1), set(152, 1, 0), chain(2, false, []uint32{0, 0}, 66, 152)), true},
		{"another port, whose lock it has not", port(1), false},
		{"no port, but a channel's lock", port(2), false},
		{"the other way round", all(set(66, 1, 0), chain(2, false, []uint32{0, 0}, 138, 66)), false},
		{"another partition's", chain(2, false, []uint32{0, 0}, 90, 138), false},
		{"a lock too many", all(set(152, 1, 0), chain(3, false, []uint32{0, 0, 0}, 66, 138, 152)), false},
		{"no lock", all(freed, set(66, 0, 0), chain(0, false, nil)), false},
		{"no ticket yet", all(freed, set(66, 0, 0), chain(0, false, nil, 66, 138)), true},
		{"a ticket", all(freed, set(66, 1, 0), chain(0, true, one, 66, 138)), true},
		{"one lock", all(freed, chain(1, false, one, 66, 138)), true},
		{"a second ticket", chain(1, true, []uint32{0, 0}, 66, 138), true},
		{"a third ticket", chain(2, true, []uint32{0, 0, 0}, 66, 138), false},
		{"locks below none", chain(-1, false, nil, 66, 138), false},
		{"locks below none, and a ticket", all(freed, set(66, 0, 0), chain(-1, true, nil, 66, 138)), false},
		{"three locks of two", chain(3, false, []uint32{0, 0, 0}, 66, 138), false},
		{"many locks", chain(math.MaxInt, false, []uint32{0, 0}, 66, 138), false},
		{"too few tickets", chain(2, false, one, 66, 138), false},
		{"too many tickets", chain(1, false, []uint32{0, 0}, 66, 138), false},
		{"no ticket, but asked", all(freed, chain(1, true, one, 66, 138)), false},
		{"it tells", of(0, func(s *api.CoreState) { s.Tells = true }), false},
		{"a word", of(0, func(s *api.CoreState) { s.Word = 7 }), false},
		{"the partition has yielded", set(85, 1), false},
		{"the partition is to be begun anew", set(85, 2), false},
		{"the partition is halted", set(85, 3), false},
		{"the other partition has yielded", set(109, 1), false},
		{"the partition without a window is halted", set(133, 3), true},
	})
}

// becomes makes of core 0's call another one, that tells nothing.
func becomes(call int) change {
	return of(0, func(s *api.CoreState) {
		s.Act.Call, s.Act.Word, s.Tells, s.Word = call, 0x78000000+uint32(call), false, 0
	})
}

// 'Which states may be', 6: a call that is done.
func TestCallsDone(t *testing.T) {
	one, two := []uint32{0}, []uint32{0, 0}
	asked(t, sent(t), []row{
		{"the partition's lock alone", all(freed, chain(1, false, one, 66)), true},
		{"another channel's", all(freed, set(152, 1, 0), chain(2, false, two, 66, 152)), true},
		{"another channel's, given back", all(freed, chain(1, false, one, 66, 152)), true},
		{"the partition's, and that again", all(freed, chain(1, false, one, 66, 66)), false},
		{"another partition's, given back", all(freed, chain(1, false, one, 66, 90)), false},
		{"no lock at all", all(freed, chain(1, false, one, 66, 64)), false},
		{"the other way round", chain(2, false, two, 138, 66), false},
		{"the channel's alone", all(set(66, 0, 0), chain(1, false, one, 138)), false},
		{"three", all(set(152, 1, 0), chain(3, false, []uint32{0, 0, 0}, 66, 138, 152)), false},
		{"three, one of which is given back", chain(2, false, two, 66, 138, 152), false},
		{"nothing in the chain", all(freed, set(66, 0, 0), chain(0, false, nil)), false},
		{"all given back", all(freed, set(66, 0, 0), chain(0, false, nil, 66, 138)), false},
		{"one given back", all(freed, chain(1, false, one, 66, 138)), true},
		{"it asks", chain(1, true, two, 66, 138), false},
		{"locks below none", chain(-1, false, nil, 66, 138), false},
		{"too few tickets", chain(2, false, one, 66, 138), false},
		{"it tells", of(0, func(s *api.CoreState) { s.Tells = true }), false},
		{"a word", of(0, func(s *api.CoreState) { s.Word = 1 }), false},
		{"any register", of(0, func(s *api.CoreState) { s.Held.Context.Regs[1] = 99 }), true},
		{"receive", becomes(api.CallReceive), true},
		{"status", becomes(api.CallStatus), true},
		{"yield, with a channel's lock", all(becomes(api.CallYield), set(85, 1)), false},
		{"input, with a channel's lock", becomes(api.CallInput), false},
		{"output, with a channel's lock", all(becomes(api.CallOutput), of(0, func(s *api.CoreState) { s.Tells = true })), false},
		{"who, with a channel's lock", becomes(api.CallWho), false},
		{"stop, with a channel's lock", all(becomes(api.CallStop), set(85, 3)), false},
		{"the partition has yielded", set(85, 1), false},
		{"the partition is to be begun anew", set(85, 2), false},
		{"the partition is halted", set(85, 3), false},
	})
	first := func(w uint32) change { return of(0, func(s *api.CoreState) { s.Held.Context.Regs[1] = w }) }
	silent := of(0, func(s *api.CoreState) { s.Tells = false })
	word := func(w uint32) change { return of(0, func(s *api.CoreState) { s.Word = w }) }
	asked(t, telling(t), []row{
		{"another word", word(math.MaxUint32), true},
		{"the word 0", word(0), true},
		{"it tells nothing", all(silent, word(0)), false},
		{"full, but it tells", first(api.ToldFull), false},
		{"full, and tells nothing", all(first(api.ToldFull), silent, word(0)), true},
		{"full, and tells nothing, but a word", all(first(api.ToldFull), silent, word(1)), false},
		{"a register that is no answer", all(first(99), silent, word(0)), true},
		{"yield", all(becomes(api.CallYield), set(85, 1)), true},
		{"yield, and ready", becomes(api.CallYield), false},
		{"yield, and halted", all(becomes(api.CallYield), set(85, 3)), false},
		{"stop", all(becomes(api.CallStop), set(85, 3)), true},
		{"stop, and ready", becomes(api.CallStop), false},
		{"stop, and yielded", all(becomes(api.CallStop), set(85, 1)), false},
		{"who", becomes(api.CallWho), true},
		{"who, and tells", all(becomes(api.CallWho), of(0, func(s *api.CoreState) { s.Tells = true })), false},
		{"who, and halted", all(becomes(api.CallWho), set(85, 3)), false},
		{"input", becomes(api.CallInput), true},
		{"send", becomes(api.CallSend), true},
		{"receive", becomes(api.CallReceive), true},
		{"status", becomes(api.CallStatus), true},
		{"no call", becomes(8), false},
		{"no call, below", becomes(-1), false},
		{"status, with a channel's lock given back", all(becomes(api.CallStatus), of(0, func(s *api.CoreState) { s.Chain = []int{66, 152} })), true},
	})
}

// 'Which states may be', 7: the locks, and the tickets that are out.
func TestLocks(t *testing.T) {
	for _, at := range []int{66, 90, 114, 138, 152} {
		asked(t, own(t), []row{
			{"nobody has it", set(at, 77, 77), true},
			{"nobody has it, at the end of all numbers", set(at, math.MaxUint32, math.MaxUint32), true},
			{"a ticket is out", set(at, 78, 77), false},
			{"a ticket is out, round the end", set(at, 0, math.MaxUint32), false},
			{"a ticket too few", set(at, 77, 78), false},
		})
	}
	tickets := func(core int, list ...uint32) change {
		return of(core, func(s *api.CoreState) { s.Tickets = list })
	}
	const end = math.MaxUint32
	asked(t, waiting(t), []row{
		{"other numbers", all(set(66, 9, 8), set(138, 1001, 999), tickets(0, 8, 999), tickets(1, 0, 1000)), true},
		{"round the end", all(set(138, 1, end), tickets(0, 0, end), tickets(1, 0, 0)), true},
		{"round the end, of a partition's", all(set(66, 0, end), tickets(0, end, 0)), true},
		{"who has it has a later ticket", all(tickets(0, 0, 1), tickets(1, 0, 0)), false},
		{"one ticket twice", tickets(1, 0, 0), false},
		{"a later ticket twice", tickets(0, 0, 1), false},
		{"a ticket that is not out", tickets(1, 0, 2), false},
		{"a ticket that was given back", tickets(1, 0, end), false},
		{"a ticket too many is out", set(138, 3, 0), false},
		{"a ticket too few is out", set(138, 1, 0), false},
		{"none is out", set(138, 0, 0), false},
		{"the turn has gone on", set(138, 3, 1), false},
		{"the partition's ticket is another", tickets(0, 1, 0), false},
		{"the partition's lock is free", set(66, 0, 0), false},
		{"both wait, the other way round", all(
			chain(1, true, []uint32{0, 1}, 66, 138), tickets(1, 0, 0),
		), true},
		{"nobody has it, both wait", chain(1, true, []uint32{0, 0}, 66, 138), true},
		{"both wait with one ticket", chain(1, true, []uint32{0, 1}, 66, 138), false},
	})
}

// P26.6, P26.7: whatever words and states are handed in, they are refused, or the machine goes on as one.
func TestAnyStates(t *testing.T) {
	taken, refused := 0, 0
	for seed := range uint64(220) {
		r := rand.New(rand.NewPCG(seed, 266))
		made := drawn(t, r)
		k := made.boot(t)
		pick := drawnPicks(r, len(made.c.Cores))
		for range r.IntN(700) {
			steps(t, k, pick())
		}
		for range 12 {
			x := scene{w: k.Memory().Words(), s: k.States()}
			for range 1 + r.IntN(2) {
				disturb(r, made, x)
			}
			n, e := kernel.Restore(made.c, made.programs, made.feeds, x.w, x.s)
			if e == api.ErrKernelState && n == nil {
				refused++
				continue
			}
			if e != api.OK || n == nil {
				t.Fatalf("seed %d: Restore: error %d", seed, e)
			}
			taken++
			tellsAll(t, n, x)
			goesOn(t, made, n, r, 24)
		}
	}
	if taken < 300 || refused < 300 {
		t.Errorf("%d were taken, %d refused", taken, refused)
	}
}

// drawnNumber draws one near the edges of things.
func drawnNumber(r *rand.Rand) int {
	return []int{0, 0, 0, 1, 1, 2, 3, 4, 5, 7, 8, 24, 25, 37, 66, -1, api.MaxEpoch, math.MaxInt, math.MinInt, r.IntN(500)}[r.IntN(20)]
}

// disturb changes something of a scene: a word of the kernel's, or a field.
func disturb(r *rand.Rand, made recipe, x scene) {
	if r.IntN(3) == 0 {
		at := made.c.Kernel*16 + r.IntN(16*made.c.Room)
		x.w[at] = []uint32{x.w[at] + 1, x.w[at] - 1, 0, 1, 2, 3, r.Uint32()}[r.IntN(7)]
		return
	}
	s := &x.s[r.IntN(len(x.s))]
	switch n := drawnNumber(r); r.IntN(22) {
	case 0:
		s.Mode = 1 + r.IntN(5)
	case 1:
		s.Epoch = n
	case 2:
		s.Window = n
	case 3, 4:
		s.Used = []int{n, s.Used + n, s.Used - 1}[r.IntN(3)]
	case 5:
		s.Act.Call = n
	case 6:
		s.Act.Cost = n
	case 7:
		s.Act.PC, s.Held.Context.PC = uint32(n), uint32(n)+1
	case 8:
		s.Act.Word = uint32(n)
	case 9:
		s.Chain = append(s.Chain, n)
	case 10:
		s.Locks = n
	case 11:
		s.Asked = !s.Asked
	case 12:
		s.Tickets = append(s.Tickets, uint32(n))
	case 13:
		s.Done = !s.Done
	case 14:
		s.Tells = !s.Tells
	case 15:
		s.Word = uint32(n)
	case 16:
		s.Held.Leaves = append(s.Held.Leaves, api.Leaf{Page: r.IntN(24), Frame: r.IntN(made.c.Frames), Rights: r.IntN(8)})
	case 17:
		for set := range s.Held.Lines {
			s.Held.Lines[set] = append(s.Held.Lines[set], 4*r.IntN(made.c.Frames)+set+r.IntN(9)/8*4*made.c.Frames)
		}
	case 18:
		s.Held.Lines = s.Held.Lines[:r.IntN(len(s.Held.Lines)+1)]
	case 19:
		s.Held.Context.Regs[r.IntN(16)] = uint32(n)
	case 20:
		*s = copiedState(x.s[r.IntN(len(x.s))])
	case 21:
		*s = api.CoreState{Epoch: s.Epoch, Mode: s.Mode}
	}
}
