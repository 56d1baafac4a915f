package kernel_test

import (
	"math/rand/v2"
	"slices"
	"testing"

	"bulkhead/api"
	"bulkhead/boot"
	"bulkhead/calls"
	"bulkhead/core"
	"bulkhead/health"
	"bulkhead/kernel"
	"bulkhead/layout"
	"bulkhead/mem"
	"bulkhead/plan"
)

// alone plays a machine another way: frame by frame, partition by partition, with no locks, no barrier and no modes; what each partition sees and tells is gathered.
type alone struct {
	made   recipe
	m      *mem.Memory
	lies   api.Layout
	wards  *health.Wards
	calls  *calls.Calls
	traces []api.Trace
}

// aloneOf plays so many frames.
func aloneOf(made recipe, frames int) []api.Trace {
	a := &alone{made: made, traces: make([]api.Trace, len(made.c.Partitions))}
	a.m, _, _ = boot.Boot(made.c, made.programs)
	a.lies, _ = layout.Of(made.c)
	a.wards, _ = health.New(made.c)
	a.calls, _ = calls.New(made.c, made.feeds)
	for epoch := range frames {
		for p := range made.c.Partitions {
			a.calls.Begin(a.m, []int{p})
			spans, _ := plan.Spans(made.c, p)
			for _, s := range spans {
				a.window(p, epoch, s)
			}
		}
		a.calls.Turn(a.m)
	}
	return a.traces
}

// window plays one window.
func (a *alone) window(p, epoch int, s api.Span) {
	become := func(kind, cycle, trap int) {
		a.traces[p].Events = append(a.traces[p].Events, api.Event{Kind: kind, Partition: p, Epoch: epoch, Cycle: cycle, Trap: trap})
	}
	x, action, _ := a.wards.Load(a.m, p)
	switch action {
	case api.ActionWarm:
		become(api.EventWarm, s.From, 0)
	case api.ActionCold:
		boot.Anew(a.m, a.made.c, p, a.made.programs[p])
		become(api.EventCold, s.From, 0)
	}
	unit, used := core.New(), 0
	unit.Set(x)
	for used < a.made.c.Cores[s.Core][s.Window].Usable {
		if status, _ := a.wards.Status(a.m, p); status.State != api.StateReady {
			break
		}
		clock := uint32(uint64(epoch)*uint64(a.made.c.Major) + uint64(s.From+used))
		act, _ := unit.Step(a.m, a.lies.Partitions[p].Root, clock)
		used += act.Cost
		if act.Call >= 0 {
			x, word, tells, _ := a.calls.Do(a.m, p, epoch, act.Call, unit.Context())
			unit.Set(x)
			if tells {
				a.traces[p].Outs = append(a.traces[p].Outs, api.Out{Partition: p, Epoch: epoch, Word: word})
			}
			if act.Call == api.CallStop {
				become(api.EventStop, s.From+used, 0)
			}
		}
		if act.Trap != 0 {
			halted, _ := a.wards.Trap(a.m, p, act.Trap, act.PC)
			become(api.EventTrap, s.From+used, act.Trap)
			if halted {
				become(api.EventHalt, s.From+used, act.Trap)
			}
		}
		a.traces[p].Seen = append(a.traces[p].Seen, api.Seen{
			Partition: p, Epoch: epoch, Cycle: s.From + used, PC: act.PC, Word: act.Word, Trap: act.Trap,
			Read: act.Read, Addr: act.Addr, Value: act.Value, After: unit.Context(),
		})
	}
	a.wards.Save(a.m, p, unit.Context())
}

// moment is where a core stands in time; what is told of it before that is told for good.
type moment struct {
	epoch, cycle int
	with         bool // what ends at this very cycle has been told
}

// momentOf tells it of a core.
func momentOf(c api.Config, core int, v api.CoreView) moment {
	if v.Mode != api.ModeRun && v.Mode != api.ModeCall {
		return moment{v.Epoch, c.Major, true}
	}
	starts, _ := plan.Starts(c, core)
	return moment{v.Epoch, starts[v.Window] + v.Used, v.Mode == api.ModeRun}
}

// past tells whether something that is told at an epoch and a cycle has been told.
func (m moment) past(epoch, cycle int) bool {
	if epoch != m.epoch {
		return epoch < m.epoch
	}
	return cycle < m.cycle || cycle == m.cycle && m.with
}

// cut tells what has been told of a partition till then: T2, as chapter 27's P27.5 says it.
func (m moment) cut(whole api.Trace) api.Trace {
	var out api.Trace
	told := 0 // how many words the device has been told with what was seen
	for _, x := range whole.Seen {
		if m.past(x.Epoch, x.Cycle) {
			out.Seen = append(out.Seen, x)
			if x.Word == 0x78000005 && x.Trap == 0 && x.After.Regs[1] == api.ToldOK {
				told++
			}
		}
	}
	for _, x := range whole.Events {
		if m.past(x.Epoch, x.Cycle) {
			out.Events = append(out.Events, x)
		}
	}
	out.Outs = whole.Outs[:told]
	return out
}

// holds asks that what was told of each partition is what it sees by itself, cut at where its core has come to.
func holds(t *testing.T, made recipe, k *kernel.Kernel, got, whole []api.Trace) {
	t.Helper()
	views := k.Cores()
	for p := range whole {
		var want api.Trace
		if core, _ := plan.Core(made.c, p); core >= 0 {
			want = momentOf(made.c, core, views[core]).cut(whole[p])
		}
		if !same(got[p], want) {
			t.Fatalf("partition %d has been told\n%+v, want\n%+v", p, got[p], want)
		}
	}
}

// watch steps a machine and holds each step against what the document says of it.
type watch struct {
	t      *testing.T
	made   recipe
	k      *kernel.Kernel
	traces []api.Trace
	epochs []int // as EventEpoch told them
	kinds  map[string]int
}

// watchOf watches a machine from its beginning on.
func watchOf(t *testing.T, made recipe, kinds map[string]int) *watch {
	t.Helper()
	return &watch{t: t, made: made, k: made.boot(t), traces: make([]api.Trace, len(made.c.Partitions)), kinds: kinds}
}

// step does one.
func (w *watch) step(core int) {
	w.t.Helper()
	before, words, states := w.k.Cores(), w.k.Memory(), w.k.States()
	turn := steps(w.t, w.k, core)
	after := w.k.Cores()
	w.kind(before[core], after[core], turn)
	w.walls(core, before[core], after[core], turn, words)
	w.time(core, turn, after)
	for i, now := range w.k.States() {
		if (i != core || turn.Kind == api.TurnBlocked) && !same(states[i], now) {
			w.t.Fatalf("%+v changed the core %d", turn, i)
		}
	}
	gather(w.traces, turn)
	for _, x := range turn.Events {
		if x.Kind == api.EventEpoch {
			w.epochs = append(w.epochs, x.Epoch)
		}
		w.kinds[[]string{"", "trap", "halt", "stop", "warm", "cold", "epoch"}[x.Kind]]++
	}
}

// kind asks that the step's kind and the modes fit one another (P26.2).
func (w *watch) kind(before, after api.CoreView, turn api.Turn) {
	w.t.Helper()
	type turning struct{ mode, kind, then int }
	may := []turning{
		{api.ModeRun, api.TurnRun, api.ModeRun}, {api.ModeRun, api.TurnRun, api.ModeCall},
		{api.ModeRun, api.TurnSwitch, api.ModeRun}, {api.ModeRun, api.TurnSwitch, api.ModeArrive},
		{api.ModeCall, api.TurnCall, api.ModeCall}, {api.ModeCall, api.TurnCall, api.ModeRun}, {api.ModeCall, api.TurnBlocked, api.ModeCall},
		{api.ModeArrive, api.TurnArrive, api.ModeWait},
		{api.ModeWait, api.TurnLeave, api.ModeRun}, {api.ModeWait, api.TurnBlocked, api.ModeWait},
	}
	if !slices.Contains(may, turning{before.Mode, turn.Kind, after.Mode}) {
		w.t.Fatalf("from %+v to %+v by %+v", before, after, turn)
	}
	ended := before.Mode == api.ModeRun && turn.Kind == api.TurnRun && after.Mode == api.ModeRun || before.Mode == api.ModeCall && after.Mode == api.ModeRun
	if (len(turn.Seen) == 1) != ended || len(turn.Seen) > 1 {
		w.t.Fatalf("from %+v to %+v: seen %+v", before, after, turn.Seen)
	}
	for _, x := range turn.Seen {
		if x.After != after.Context || x.Partition != before.Partition || x.Epoch != before.Epoch {
			w.t.Fatalf("%+v is seen, behind it %+v", x, after)
		}
	}
	w.kinds[[]string{"blocked", "run", "call", "switch", "arrive", "leave"}[turn.Kind]]++
	if before.Mode == api.ModeCall && turn.Kind == api.TurnBlocked {
		w.kinds["blocked at a lock"]++
	}
}

// walls asks that the step has written words of those alone of whom it may (T3, chapter 28's P28.6).
func (w *watch) walls(core int, before, after api.CoreView, turn api.Turn, words *mem.Memory) {
	w.t.Helper()
	for at := range words.Differ(w.k.Memory()) {
		whose, _ := layout.Owner(w.made.c, at)
		may := w.allowed(before.Partition, whose) || w.allowed(after.Partition, whose)
		switch turn.Kind {
		case api.TurnBlocked:
			may = false
		case api.TurnArrive:
			may = whose.Kind == api.OwnStage || whose.Kind == api.OwnPort || whose.Kind == api.OwnBarrier
		case api.TurnLeave:
			on, _ := plan.Core(w.made.c, whose.Index)
			may = may || whose.Kind == api.OwnState && on == core
		case api.TurnRun:
			may = whose == api.Owner{Kind: api.OwnRegion, Index: before.Partition} || whose == api.Owner{Kind: api.OwnState, Index: before.Partition}
		}
		if !may {
			w.t.Fatalf("%+v of %+v wrote the word %d of %+v", turn, before, at, whose)
		}
	}
}

// allowed tells whether a step for a partition may write words of these.
func (w *watch) allowed(p int, whose api.Owner) bool {
	if p < 0 {
		return false
	}
	ports := w.made.c.Partitions[p].Ports
	switch whose.Kind {
	case api.OwnRegion, api.OwnLock, api.OwnSave, api.OwnState:
		return whose.Index == p
	case api.OwnChannel:
		return slices.ContainsFunc(ports, func(q api.Port) bool { return q.Channel == whose.Index })
	case api.OwnStage:
		return slices.Contains(ports, api.Port{Channel: whose.Index, Source: true})
	case api.OwnPort:
		return whose.Index == p
	}
	return false
}

// time asks what T4 says (P26.8).
func (w *watch) time(core int, turn api.Turn, views []api.CoreView) {
	w.t.Helper()
	for _, x := range turn.Seen {
		starts, _ := plan.Starts(w.made.c, core)
		in := false
		for i, window := range w.made.c.Cores[core] {
			in = in || window.Partition == x.Partition && x.Cycle > starts[i] && x.Cycle <= starts[i]+window.Usable-1+api.MostCost
		}
		if place, e := plan.At(w.made.c, core, x.Cycle-1); !in || e != api.OK || place.Partition != x.Partition {
			w.t.Fatalf("%+v lies in no window of its partition", x)
		}
	}
	least, most := views[0].Epoch, views[0].Epoch
	for _, v := range views {
		least, most = min(least, v.Epoch), max(most, v.Epoch)
	}
	if most > least+1 {
		w.t.Fatalf("the cores stand too far apart: %+v", views)
	}
}

// moves asks that some core is not blocked, on a machine of its own.
func (w *watch) moves() {
	w.t.Helper()
	some := false
	for core := range w.made.c.Cores {
		n := w.made.again(w.t, w.k)
		some = some || steps(w.t, n, core).Kind != api.TurnBlocked
	}
	if !some {
		w.t.Fatalf("all are blocked: %+v", w.k.States())
	}
}

// drawnPicks draws which core steps next, with one or the other far ahead for a while.
func drawnPicks(r *rand.Rand, cores int) func() int {
	left, fast := 0, 0
	return func() int {
		if left--; left < 0 {
			left, fast = r.IntN(60), r.IntN(cores)
		}
		if r.IntN(3) == 0 {
			return r.IntN(cores)
		}
		return fast
	}
}

// behind tells the least epoch of all cores.
func behind(k *kernel.Kernel) int {
	least := k.Epoch()
	for _, v := range k.Cores() {
		least = min(least, v.Epoch)
	}
	return least
}

// P26.2, P26.3, P26.7 to P26.9, T1 to T4: any machine, stepped in any order, held against its partitions by themselves; now and then it goes on as a machine that was made anew of what it tells.
func TestModel(t *testing.T) {
	const frames = 4
	kinds := map[string]int{}
	for seed := range uint64(60) {
		r := rand.New(rand.NewPCG(seed, 260))
		made := drawn(t, r)
		whole := aloneOf(made, frames+1)
		w := watchOf(t, made, kinds)
		pick := drawnPicks(r, len(made.c.Cores))
		for behind(w.k) < frames && w.k.Epoch() <= frames {
			w.step(pick())
			switch r.IntN(30) {
			case 0:
				w.k = made.again(t, w.k)
			case 1:
				w.moves()
			case 2:
				holds(t, made, w.k, w.traces, whole)
			}
			if t.Failed() {
				t.Fatalf("seed %d", seed)
			}
		}
		holds(t, made, w.k, w.traces, whole)
		for i, epoch := range w.epochs {
			if epoch != i+1 {
				t.Fatalf("seed %d: the epochs begin as %v", seed, w.epochs)
			}
		}
	}
	// All that can become of a machine must have come, or it was drawn too narrowly.
	for _, kind := range []string{"run", "call", "switch", "arrive", "leave", "blocked", "blocked at a lock", "trap", "halt", "stop", "warm", "cold", "epoch"} {
		if kinds[kind] < 10 {
			t.Errorf("%s: %d times", kind, kinds[kind])
		}
	}
}

// ended plays a machine in some order till all cores wait for an epoch, and tells what was told.
func ended(t *testing.T, k *kernel.Kernel, epoch int, pick func() int) []api.Trace {
	t.Helper()
	traces := make([]api.Trace, len(k.Partitions()))
	playTo(t, k, epoch, pick, func(turn api.Turn) { gather(traces, turn) })
	return traces
}

// P26.9, T6: two orders tell the same and leave the same, all words and all states.
func TestOrders(t *testing.T) {
	for seed := range uint64(60) {
		r := rand.New(rand.NewPCG(seed, 261))
		made := drawn(t, r)
		a, b := made.boot(t), made.boot(t)
		one := ended(t, a, 3, drawnPicks(r, len(made.c.Cores)))
		another := ended(t, b, 3, drawnPicks(r, len(made.c.Cores)))
		if !same(one, another) || !same(a.States(), b.States()) {
			t.Fatalf("seed %d: two orders tell unlike things", seed)
		}
		for at := range a.Memory().Differ(b.Memory()) {
			whose, _ := layout.Owner(made.c, at)
			t.Fatalf("seed %d: the word %d of %+v differs", seed, at, whose)
		}
	}
}

// T1: with other programs and feeds of those who can tell it nothing a partition sees the same.
func TestNothingPasses(t *testing.T) {
	longest := 0
	for seed := range uint64(80) {
		r := rand.New(rand.NewPCG(seed, 262))
		made := drawn(t, r)
		p := r.IntN(len(made.c.Partitions))
		other := recipe{c: made.c}
		into := tellers(made.c, p)
		for q, x := range made.c.Partitions {
			if into[q] {
				other.programs = append(other.programs, made.programs[q])
			} else {
				other.programs = append(other.programs, drawnProgram(t, r, x))
			}
		}
		for _, f := range made.feeds {
			if into[f.Partition] {
				other.feeds = append(other.feeds, f)
			}
		}
		one := ended(t, made.boot(t), 3, drawnPicks(r, len(made.c.Cores)))
		another := ended(t, other.boot(t), 3, drawnPicks(r, len(made.c.Cores)))
		if !same(one[p], another[p]) {
			t.Fatalf("seed %d: partition %d sees\n%+v and\n%+v", seed, p, one[p], another[p])
		}
		longest = max(longest, len(one[p].Seen))
	}
	if longest < 100 {
		t.Errorf("no partition has seen more than %d", longest)
	}
}

// tellers tells which partitions have a way of channels to one, itself among them.
func tellers(c api.Config, p int) []bool {
	into := make([]bool, len(c.Partitions))
	into[p] = true
	for range c.Partitions {
		for from, x := range c.Partitions {
			for _, source := range x.Ports {
				for to, y := range c.Partitions {
					if source.Source && into[to] && slices.Contains(y.Ports, api.Port{Channel: source.Channel}) {
						into[from] = true
					}
				}
			}
		}
	}
	return into
}

// T4: behind so many rounds as plan.Rounds tells each core has come into the next frame.
func TestRounds(t *testing.T) {
	for seed := range uint64(40) {
		r := rand.New(rand.NewPCG(seed, 263))
		made := drawn(t, r)
		k := made.boot(t)
		for frame := range 2 {
			for range plan.Rounds(made.c) {
				for _, core := range r.Perm(len(made.c.Cores)) {
					steps(t, k, core)
				}
			}
			if behind(k) < frame+1 {
				t.Fatalf("seed %d: behind %d frames' rounds: %+v", seed, frame+1, k.Cores())
			}
		}
	}
}
