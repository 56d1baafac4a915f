package audit_test

import (
	"math"
	"math/rand/v2"
	"slices"
	"testing"

	"bulkhead/api"
	"bulkhead/audit"
	"bulkhead/kernel"
	"bulkhead/layout"
	"bulkhead/mem"
	"bulkhead/plan"
)

// model finds problems another way: by words alone, as DOC.md and the chapters 9, 19 and 20 say how they lie.
type model struct {
	c     api.Config
	words []uint32
	found []api.Problem
}

// add notes a problem, if there is one.
func (m *model) add(is bool, kind, index, at int) {
	if is {
		m.found = append(m.found, api.Problem{Kind: kind, Index: index, At: at})
	}
}

// problemsOf tells all problems of a configuration's words.
func problemsOf(c api.Config, words []uint32) []api.Problem {
	m := &model{c: c, words: words}
	l, _ := layout.Of(c)
	cores := uint32(len(c.Cores))
	m.add(words[l.Barrier] > cores || words[l.Barrier+1] > 1<<30, api.ProblemBarrier, -1, l.Barrier)
	for p, x := range c.Partitions {
		place := l.Partitions[p]
		m.add(words[place.Lock]-words[place.Lock+1] > 1, api.ProblemLock, p, place.Lock)
		s := words[place.State : place.State+5]
		wrong := []bool{s[0] > 3, s[1] > uint32(x.Restarts), s[2] > 6, false, s[4] > uint32(x.Outputs)}
		if i := slices.Index(wrong, true); i >= 0 {
			m.add(true, api.ProblemState, p, place.State+i)
		}
	}
	for n, h := range c.Channels {
		place := l.Channels[n]
		m.add(words[place.Lock]-words[place.Lock+1] > cores, api.ProblemLock, 16+n, place.Lock)
		stage := words[place.Stage : place.Stage+layout.Stage(h)]
		m.add(!stageIsRight(h, stage), api.ProblemStage, n, place.Stage)
		for _, d := range place.Dests {
			m.add(!portIsRight(h, words[d.At:d.At+layout.Port(h)]), api.ProblemPort, n, d.At)
		}
	}
	for p, x := range c.Partitions {
		place := l.Partitions[p]
		want := tablesOf(x, place)
		for _, frame := range append([]int{place.Root}, place.Tables...) {
			for i := range 16 {
				m.add(words[16*frame+i] != want[16*frame+i], api.ProblemTable, p, 16*frame+i)
			}
		}
	}
	return m.found
}

// zeros tells whether all of these are 0.
func zeros(words []uint32) bool {
	return !slices.ContainsFunc(words, func(w uint32) bool { return w != 0 })
}

// isMessage tells whether words are a length and a message with nothing behind it.
func isMessage(words []uint32) bool {
	n := words[0]
	return n >= 1 && int64(n) < int64(len(words)) && zeros(words[1+n:])
}

func stageIsRight(h api.Channel, words []uint32) bool {
	if h.Kind == api.KindSampling {
		return zeros(words) || words[0] == 1 && isMessage(words[1:])
	}
	return isRow(h, words[1:], 0, words[0])
}

func portIsRight(h api.Channel, words []uint32) bool {
	if h.Kind == api.KindSampling {
		return zeros(words) || words[0] == 1 && words[1] <= 1 && isMessage(words[2:])
	}
	first, held := words[0], words[1]
	if held == 0 && first != 0 || first >= uint32(h.Depth) {
		return false
	}
	return isRow(h, words[3:], first, held)
}

// isRow tells whether just so many places from the first one on hold messages.
func isRow(h api.Channel, places []uint32, first, held uint32) bool {
	if held > uint32(h.Depth) {
		return false
	}
	for i := range h.Depth {
		place := places[i*(1+h.Words) : (i+1)*(1+h.Words)]
		behind := (i - int(first) + h.Depth) % h.Depth
		if behind < int(held) && !isMessage(place) || behind >= int(held) && !zeros(place) {
			return false
		}
	}
	return true
}

// tablesOf tells the words of a partition's root and tables, by their places.
func tablesOf(x api.Partition, place api.PartitionPlace) map[int]uint32 {
	out := map[int]uint32{}
	tables := map[int]int{}
	next := 0
	for t := range 16 {
		for _, r := range x.Regions {
			if _, there := tables[t]; !there && r.Page < 16*t+16 && r.Page+r.Pages > 16*t {
				tables[t] = place.Tables[next]
				next++
			}
		}
	}
	for t, frame := range tables {
		out[16*place.Root+t] = 1<<31 | uint32(frame)<<3
	}
	for _, r := range x.Regions {
		for i := range r.Pages {
			page := r.Page + i
			out[16*tables[page/16]+page%16] = 1<<31 | uint32(r.Frame+i)<<3 | uint32(r.Rights)
		}
	}
	return out
}

// spoil writes some words: anywhere, or the kernel's alone; such as may just be or may just not be, or any.
func spoil(r *rand.Rand, c api.Config, m *mem.Memory) {
	l, _ := layout.Of(c)
	tables := 16 * l.Partitions[0].Root
	for range r.IntN(6) {
		at := l.Barrier + r.IntN(tables-l.Barrier)
		if r.IntN(6) == 0 {
			at = r.IntN(16 * c.Frames)
		}
		w, _ := m.Read(at)
		m.Write(at, []uint32{0, 1, 2, 3, 4, 6, 7, 16, w + 1, w - 1, 1 << 30, 1<<30 + 1, math.MaxUint32, w ^ 1<<r.IntN(32), r.Uint32()}[r.IntN(15)])
	}
}

// P28.1, P28.2: any memory: at the beginning, behind some steps, and with some words spoilt.
func TestModel(t *testing.T) {
	kinds := map[int]int{}
	for seed := range uint64(150) {
		r := rand.New(rand.NewPCG(seed, 280))
		made := drawn(t, r)
		m := booted(t, made.c, made.programs...)
		finds(t, made.c, m)
		k := made.boot(t)
		for range r.IntN(900) {
			k.Step(r.IntN(len(made.c.Cores)))
		}
		for range 20 {
			m := k.Memory()
			spoil(r, made.c, m)
			want := problemsOf(made.c, m.Words())
			finds(t, made.c, m, want...)
			for _, x := range want {
				kinds[x.Kind]++
			}
		}
		if t.Failed() {
			t.Fatalf("seed %d", seed)
		}
	}
	for kind := api.ProblemTable; kind <= api.ProblemPort; kind++ {
		if kinds[kind] < 20 {
			t.Errorf("problems of the kind %d: %d", kind, kinds[kind])
		}
	}
}

// fine asks that a machine has no problem.
func fine(t *testing.T, k *kernel.Kernel) {
	t.Helper()
	if got, e := audit.Machine(k); e != api.OK || len(got) > 0 {
		t.Fatalf("Machine: %v, error %d; %+v", got, e, k.Cores())
	}
}

// P28.3: whatever steps a machine has done there is no problem; nor has one that is made anew of its words and states.
func TestMachine(t *testing.T) {
	modes := map[int]int{}
	for seed := range uint64(40) {
		r := rand.New(rand.NewPCG(seed, 281))
		made := drawn(t, r)
		k := made.boot(t)
		fine(t, k)
		for k.Epoch() < 3 {
			core := r.IntN(len(made.c.Cores))
			for range r.IntN(40) {
				k.Step(core)
				modes[k.Cores()[core].Mode]++
			}
			fine(t, k)
			fine(t, made.restore(t, k.Memory().Words(), k.States()))
		}
	}
	for mode := api.ModeRun; mode <= api.ModeWait; mode++ {
		if modes[mode] < 100 {
			t.Errorf("the mode %d: %d times", mode, modes[mode])
		}
	}
}

// P28.3: at the end of all, too; nor does Machine change the machine, or share anything with it.
func TestMachineAtTheEnd(t *testing.T) {
	made := recipe{c: wide(t)}
	k := made.boot(t)
	words, states := k.Memory().Words(), k.States()
	words[321] = api.MaxEpoch - 1
	for i := range states {
		states[i].Epoch = api.MaxEpoch - 1
	}
	k = made.restore(t, words, states)
	for step := range 300 {
		before := k.Memory().Words()
		fine(t, k)
		if !slices.Equal(k.Memory().Words(), before) {
			t.Fatal("Machine has changed a word")
		}
		k.Step(step % 3)
	}
	for _, v := range k.Cores() {
		if v.Mode != api.ModeEnd {
			t.Errorf("%+v is not at its end", v)
		}
	}
}

// P28.6, T3: whatever a step changes belongs to those of whom it may.
func TestWalls(t *testing.T) {
	written := map[int]int{}
	for seed := range uint64(60) {
		r := rand.New(rand.NewPCG(seed, 282))
		made := drawn(t, r)
		k := made.boot(t)
		old := k.Memory()
		for k.Epoch() < 3 {
			core := r.IntN(len(made.c.Cores))
			for range r.IntN(30) {
				before := k.Cores()[core].Partition
				turn, _ := k.Step(core)
				now := k.Memory()
				touched, e := audit.Touched(made.c, old, now)
				if e != api.OK {
					t.Fatalf("seed %d: Touched: error %d", seed, e)
				}
				for _, o := range touched {
					written[o.Kind]++
					if !stepWrote(t, made.c, core, turn.Kind, o, before, k.Cores()[core].Partition) {
						t.Fatalf("seed %d: %+v wrote words of %v", seed, turn, o)
					}
				}
				old = now
			}
		}
	}
	for kind := api.OwnRegion; kind <= api.OwnPort; kind++ {
		if written[kind] < 20 {
			t.Errorf("words of the kind %d were written %d times", kind, written[kind])
		}
	}
	if written[api.OwnTable]+written[api.OwnNobody] > 0 {
		t.Error("a table was written, or a word of nobody")
	}
}

// stepWrote tells whether a core's step of that kind may have written words of an owner, the partitions of its windows ahead of it and behind it being these.
func stepWrote(t *testing.T, c api.Config, core, kind int, o api.Owner, partitions ...int) bool {
	t.Helper()
	for _, p := range partitions {
		if p >= 0 && mayIt(t, c, p, o) {
			return true
		}
	}
	on, _ := plan.Core(c, o.Index)
	return kind == api.TurnArrive && mayIt(t, c, -1, o) || kind == api.TurnLeave && o.Kind == api.OwnState && on == core
}

// P28.4, P28.6: any two memories: the owners of all words at which they differ, each once, in order; both ways round.
func TestTouchedModel(t *testing.T) {
	for seed := range uint64(100) {
		r := rand.New(rand.NewPCG(seed, 283))
		c := drawn(t, r).c
		a := booted(t, c)
		b := a.Clone()
		for range r.IntN(20) {
			at := r.IntN(16 * c.Frames)
			b.Fill(at, r.IntN(min(40, 16*c.Frames-at)), r.Uint32N(2))
		}
		var want []api.Owner
		one, another := a.Words(), b.Words()
		for at := range one {
			whose, _ := layout.Owner(c, at)
			if one[at] != another[at] && !slices.Contains(want, whose) {
				want = append(want, whose)
			}
		}
		touches(t, c, a, b, want...)
		touches(t, c, a, a)
	}
}

// P28.5: any configuration, any partition and any owner.
func TestMayModel(t *testing.T) {
	for seed := range uint64(8) {
		judges(t, drawn(t, rand.New(rand.NewPCG(seed, 284))).c)
	}
}
