package solo_test

import (
	"math/rand/v2"
	"slices"
	"testing"

	"bulkhead/api"
	"bulkhead/flow"
	"bulkhead/kernel"
	"bulkhead/plan"
)

// sameTrace tells whether two traces are the same.
func sameTrace(a, b api.Trace) bool {
	return slices.Equal(a.Seen, b.Seen) && slices.Equal(a.Events, b.Events) && slices.Equal(a.Outs, b.Outs)
}

// begins tells what stands in a list as long as something is true of it; from there on it must be true of nothing.
func begins[T any](t *testing.T, list []T, is func(T) bool) []T {
	t.Helper()
	n := 0
	for n < len(list) && is(list[n]) {
		n++
	}
	if slices.ContainsFunc(list[n:], is) {
		t.Fatalf("no beginning: %+v", list)
	}
	return list[:n]
}

// toldOf tells whether what has ended at a cycle of an epoch has been told of a core that stands so (P27.5).
func toldOf(c api.Config, core int, v api.CoreView) func(epoch, cycle int) bool {
	stands := 0
	if v.Mode == api.ModeRun || v.Mode == api.ModeCall {
		starts, _ := plan.Starts(c, core)
		stands = starts[v.Window] + v.Used
	}
	return func(epoch, cycle int) bool {
		switch {
		case epoch != v.Epoch:
			return epoch < v.Epoch
		case v.Mode == api.ModeRun:
			return cycle <= stands
		case v.Mode == api.ModeCall:
			return cycle < stands
		}
		return true
	}
}

// outputs tells how many calls output were told ToldOK.
func outputs(seen []api.Seen) int {
	n := 0
	for _, x := range seen {
		if x.Word == 0x78000005 && x.Trap == api.TrapNone && x.After.Regs[1] == api.ToldOK {
			n++
		}
	}
	return n
}

// gather adds what a turn tells to the traces.
func gather(traces []api.Trace, turn api.Turn) {
	for _, x := range turn.Seen {
		traces[x.Partition].Seen = append(traces[x.Partition].Seen, x)
	}
	for _, x := range turn.Events {
		if x.Kind != api.EventEpoch {
			traces[x.Partition].Events = append(traces[x.Partition].Events, x)
		}
	}
	for _, x := range turn.Outs {
		traces[x.Partition].Outs = append(traces[x.Partition].Outs, x)
	}
}

// stepped is a machine that is stepped, with what it has told, and what each partition sees by itself in 1, 2 .. frames.
type stepped struct {
	made   recipe
	k      *kernel.Kernel
	traces []api.Trace
	alone  [api.MaxEpochs][]api.Trace
	modes  map[int]int // how often a core stood in a mode when it was held
}

// step lets a core step.
func (s *stepped) step(t *testing.T, core int) {
	t.Helper()
	turn, e := s.k.Step(core)
	if e != api.OK {
		t.Fatalf("Step(%d): error %d", core, e)
	}
	gather(s.traces, turn)
}

// holds asks what P27.5 says of each partition.
func (s *stepped) holds(t *testing.T) {
	t.Helper()
	views := s.k.Cores()
	for p, got := range s.traces {
		core, _ := plan.Core(s.made.c, p)
		if core < 0 {
			if !sameTrace(got, api.Trace{}) {
				t.Fatalf("partition %d has no window, but is told %+v", p, got)
			}
			continue
		}
		v := views[core]
		if v.Epoch >= api.MaxEpochs {
			continue
		}
		if s.alone[v.Epoch] == nil {
			s.alone[v.Epoch] = s.made.run(t, v.Epoch+1)
		}
		whole, past := s.alone[v.Epoch][p], toldOf(s.made.c, core, v)
		want := api.Trace{
			Seen:   begins(t, whole.Seen, func(x api.Seen) bool { return past(x.Epoch, x.Cycle) }),
			Events: begins(t, whole.Events, func(x api.Event) bool { return past(x.Epoch, x.Cycle) }),
		}
		want.Outs = whole.Outs[:outputs(want.Seen)]
		if !sameTrace(got, want) {
			t.Fatalf("partition %d on %+v is told\n%+v, want\n%+v", p, v, got, want)
		}
		s.modes[v.Mode]++
	}
}

// picks draws which core steps next, with one or another far ahead for a while.
func picks(r *rand.Rand, cores int) func() int {
	left, fast := 0, 0
	return func() int {
		if left--; left < 0 {
			left, fast = r.IntN(60), r.IntN(cores)
		}
		if r.IntN(3) == 0 {
			return r.IntN(cores)
		}
		return fast
	}
}

// P27.2, P27.3, P27.5, T2: any machine, stepped in any way, tells of its partitions what they see by themselves, cut at where their cores have come to.
func TestAsTheMachine(t *testing.T) {
	modes := map[int]int{}
	for seed := range uint64(80) {
		r := rand.New(rand.NewPCG(seed, 270))
		made := drawn(t, r)
		k, e := kernel.New(made.c, made.programs, made.feeds)
		if e != api.OK {
			t.Fatalf("seed %d: New: error %d", seed, e)
		}
		s := &stepped{made: made, k: k, traces: make([]api.Trace, len(made.c.Partitions)), modes: modes}
		frames := 1 + r.IntN(api.MaxEpochs)
		for pick := picks(r, len(made.c.Cores)); k.Epoch() < frames; s.step(t, pick()) {
			if r.IntN(50) == 0 {
				s.holds(t)
			}
		}
		s.holds(t)
		if t.Failed() {
			t.Fatalf("seed %d", seed)
		}
	}
	for _, mode := range []int{api.ModeRun, api.ModeCall, api.ModeArrive, api.ModeWait} {
		if modes[mode] < 50 {
			t.Errorf("the mode %d: %d times", mode, modes[mode])
		}
	}
}

// P27.6: fewer frames tell the beginnings of what more frames tell.
func TestFrameByFrame(t *testing.T) {
	for seed := range uint64(40) {
		made := drawn(t, rand.New(rand.NewPCG(seed, 271)))
		whole := made.run(t, api.MaxEpochs)
		for n := range api.MaxEpochs + 1 {
			for p, got := range made.run(t, n) {
				want := api.Trace{
					Seen:   begins(t, whole[p].Seen, func(x api.Seen) bool { return x.Epoch < n }),
					Events: begins(t, whole[p].Events, func(x api.Event) bool { return x.Epoch < n }),
					Outs:   begins(t, whole[p].Outs, func(x api.Out) bool { return x.Epoch < n }),
				}
				if !sameTrace(got, want) {
					t.Fatalf("seed %d, %d frames: partition %d sees\n%+v, want\n%+v", seed, n, p, got, want)
				}
			}
		}
	}
}

// P27.4, T4: of each trace the epochs do not fall, of one epoch the cycles of what is seen rise, and lie in windows of the partition; one without windows has an empty trace.
func TestOrderOfTraces(t *testing.T) {
	kinds, told, without := map[int]int{}, map[uint32]int{}, 0
	for seed := range uint64(60) {
		made := drawn(t, rand.New(rand.NewPCG(seed, 272)))
		for p, x := range made.run(t, api.MaxEpochs) {
			ownNumber(t, p, x)
			spans, _ := plan.Spans(made.c, p)
			if len(spans) == 0 {
				without++
				if !sameTrace(x, api.Trace{}) {
					t.Fatalf("seed %d: partition %d has no window, but sees %+v", seed, p, x)
				}
			}
			if !slices.IsSortedFunc(x.Outs, func(a, b api.Out) int { return a.Epoch - b.Epoch }) ||
				!slices.IsSortedFunc(x.Events, func(a, b api.Event) int { return (a.Epoch-b.Epoch)*api.MaxMajor*2 + a.Cycle - b.Cycle }) {
				t.Fatalf("seed %d: partition %d: %+v, %+v", seed, p, x.Events, x.Outs)
			}
			before := api.Seen{Epoch: -1}
			for _, s := range x.Seen {
				in := func(span api.Span) bool {
					return s.Cycle > span.From && s.Cycle <= span.From+made.c.Cores[span.Core][span.Window].Usable-1+api.MostCost
				}
				if s.Epoch < before.Epoch || s.Epoch == before.Epoch && s.Cycle <= before.Cycle || s.Epoch >= api.MaxEpochs || !slices.ContainsFunc(spans, in) {
					t.Fatalf("seed %d: behind %+v partition %d sees %+v", seed, before, p, s)
				}
				before = s
				if s.Word>>26 == api.OpHyp && s.Trap == api.TrapNone {
					told[s.Word%8<<8|s.After.Regs[1]]++
				}
			}
			for _, v := range x.Events {
				kinds[v.Kind]++
			}
		}
	}
	// All that can become of a partition must have come, or it was drawn too narrowly.
	for _, kind := range []int{api.EventTrap, api.EventHalt, api.EventStop, api.EventWarm, api.EventCold} {
		if kinds[kind] < 10 {
			t.Errorf("the event %d: %d times", kind, kinds[kind])
		}
	}
	for _, call := range []uint32{0x000, 0x100, 0x101, 0x102, 0x103, 0x104, 0x105, 0x200, 0x201, 0x202, 0x204, 0x206, 0x300, 0x301, 0x400, 0x407, 0x500, 0x505, 0x600, 0x700} {
		if told[call] < 5 {
			t.Errorf("the call %d is told %d only %d times", call>>8, call&0xff, told[call])
		}
	}
	if kinds[api.EventEpoch] > 0 || without < 10 {
		t.Errorf("%d events of an epoch, %d partitions without windows", kinds[api.EventEpoch], without)
	}
}

// changed is another recipe of the same configuration: those of whom it is true have other programs and feeds.
func (m recipe) changed(t *testing.T, r *rand.Rand, who func(p int) bool) recipe {
	t.Helper()
	out := recipe{c: m.c}
	for p, x := range m.c.Partitions {
		program := m.programs[p]
		if who(p) {
			program = drawnProgram(t, r, x)
			out.feeds = append(out.feeds, drawnFeeds(r, p, x)...)
		}
		out.programs = append(out.programs, program)
	}
	for _, f := range m.feeds {
		if !who(f.Partition) {
			out.feeds = append(out.feeds, f)
		}
	}
	return out
}

// P27.7, T1: a partition's trace hangs on the programs and feeds of those alone from which a way of channels leads to it.
func TestNothingPasses(t *testing.T) {
	others, seen := 0, 0
	for seed := range uint64(100) {
		r := rand.New(rand.NewPCG(seed, 273))
		made := drawn(t, r)
		whole := made.run(t, 5)
		for p := range made.c.Partitions {
			into, _ := flow.Into(made.c, p)
			apart := func(q int) bool { return !slices.Contains(into, q) }
			if got := made.changed(t, r, apart).run(t, 5); !sameTrace(got[p], whole[p]) {
				t.Fatalf("seed %d: partition %d sees\n%+v and\n%+v", seed, p, got[p], whole[p])
			}
			others += len(made.c.Partitions) - len(into)
			// Those who can tell it something must be heard now and then, or nothing is shown.
			if got := made.changed(t, r, func(q int) bool { return q != p }).run(t, 5); !sameTrace(got[p], whole[p]) {
				seen++
			}
		}
	}
	if others < 100 || seen < 50 {
		t.Errorf("%d programs were changed that tell nothing; %d that tell something were heard", others, seen)
	}
}

// renumbered is the same machine with its partitions in another order: order tells which stands where. Who asks for its number would be told another one, so nobody does.
func (m recipe) renumbered(order []int) recipe {
	out := recipe{c: m.c}
	out.c.Partitions, out.c.Cores = nil, nil
	for _, p := range order {
		out.c.Partitions = append(out.c.Partitions, m.c.Partitions[p])
		program := slices.Clone(m.programs[p])
		for i, w := range program {
			if w == 0x78000006 {
				program[i] = 0x04000000
			}
		}
		out.programs = append(out.programs, program)
	}
	for _, windows := range m.c.Cores {
		windows = slices.Clone(windows)
		for i, w := range windows {
			windows[i].Partition = slices.Index(order, w.Partition)
		}
		out.c.Cores = append(out.c.Cores, windows)
	}
	for _, f := range m.feeds {
		f.Partition = slices.Index(order, f.Partition)
		out.feeds = append(out.feeds, f)
	}
	return out
}

// P27.8: with other numbers the partitions are played in another order, and each sees the same.
func TestOrderOfPartitions(t *testing.T) {
	for seed := range uint64(100) {
		r := rand.New(rand.NewPCG(seed, 274))
		made := drawn(t, r)
		still, order := make([]int, len(made.c.Partitions)), r.Perm(len(made.c.Partitions))
		for p := range still {
			still[p] = p
		}
		want := made.renumbered(still).run(t, 6)
		for q, got := range made.renumbered(order).run(t, 6) {
			p := order[q]
			ownNumber(t, q, got)
			for i := range got.Seen {
				got.Seen[i].Partition = p
			}
			for i := range got.Events {
				got.Events[i].Partition = p
			}
			for i := range got.Outs {
				got.Outs[i].Partition = p
			}
			if !sameTrace(got, want[p]) {
				t.Fatalf("seed %d: the partition %d, as %d, sees\n%+v, want\n%+v", seed, p, q, got, want[p])
			}
		}
	}
}
