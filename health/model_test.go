package health_test

import (
	"math/rand/v2"
	"slices"
	"sync"
	"testing"

	"bulkhead/api"
	"bulkhead/health"
	"bulkhead/layout"
	"bulkhead/mem"
)

// drawn draws a configuration that holds together: up to 8 partitions, with channels now and then, so that the words lie anywhere.
func drawn(r *rand.Rand) api.Config {
	c := api.Config{Major: 200, Cores: [][]api.Window{{{Partition: -1, Usable: 100, Slack: 100}}}}
	n := 1 + r.IntN(api.MaxPartitions)
	for p := range n {
		page := r.IntN(api.Pages)
		c.Partitions = append(c.Partitions, api.Partition{
			Name: string(rune('a' + p)), Entry: page*api.FrameWords + r.IntN(api.FrameWords),
			Action: r.IntN(3), Restarts: []int{r.IntN(3), r.IntN(api.MaxRestarts + 1)}[r.IntN(2)], Outputs: r.IntN(api.MaxOutputs + 1),
			Regions: []api.Region{{Page: page, Pages: 1, Frame: p, Rights: 7}},
		})
	}
	for i := range r.IntN(api.MaxPorts/2 + 1) {
		c.Channels = append(c.Channels, api.Channel{Kind: api.KindSampling, Words: 1 + r.IntN(api.MaxMessage)})
		for _, source := range []bool{true, false} {
			p := &c.Partitions[r.IntN(n)]
			p.Ports = append(p.Ports, api.Port{Channel: i, Source: source})
		}
	}
	c.Kernel = n + r.IntN(3)
	c.Room, _ = layout.Need(c)
	c.Frames = c.Kernel + c.Room + r.IntN(3)
	return c
}

// anything draws a context.
func anything(r *rand.Rand) api.Context {
	x := api.Context{PC: r.Uint32()}
	for i := range x.Regs {
		x.Regs[i] = r.Uint32()
	}
	return x
}

// patient is how a partition must stand.
type patient struct {
	api.Status
	saved api.Context
}

// isRight says the chapter's words on a right state, one by one.
func isRight(s api.Status, p api.Partition) bool {
	switch {
	case s.State < 0 || s.State > 3, s.Restarts < 0 || s.Restarts > p.Restarts, s.Trap < 0 || s.Trap > 6, s.Trap == 0 && s.PC != 0, s.Outs < 0 || s.Outs > p.Outputs:
		return false
	case s.State == api.StateRestart:
		return p.Action != api.ActionHalt && s.Restarts < p.Restarts
	}
	return true
}

// ground is a memory with its wards, and what must become of them.
type ground struct {
	t        *testing.T
	c        api.Config
	l        api.Layout
	w        *health.Wards
	m        *mem.Memory
	patients []patient
	others   []uint32 // all words, those of the partitions are not looked at
}

// groundOf makes one of words that are anything, on which each partition has begun.
func groundOf(t *testing.T, r *rand.Rand) *ground {
	t.Helper()
	c := drawn(r)
	l, e := layout.Of(c)
	is(t, "layout.Of", e, api.OK)
	g := &ground{t: t, c: c, l: l, w: wardsOf(t, c), others: make([]uint32, c.Frames*api.FrameWords)}
	for i := range g.others {
		g.others[i] = r.Uint32()
	}
	g.m, e = mem.Of(g.others)
	is(t, "mem.Of", e, api.OK)
	g.patients = make([]patient, len(c.Partitions))
	for p := range g.patients {
		g.begin(p)
	}
	g.holds()
	return g
}

// holds asks that all words of the memory are what they must be.
func (g *ground) holds() {
	g.t.Helper()
	want := slices.Clone(g.others)
	for p, x := range g.patients {
		copy(want[g.l.Partitions[p].Save:], wordsOf(x.saved))
		copy(want[g.l.Partitions[p].State:], []uint32{uint32(x.State), uint32(x.Restarts), uint32(x.Trap), x.PC, uint32(x.Outs)})
	}
	stays(g.t, g.m, want)
}

func (g *ground) begin(p int) {
	g.t.Helper()
	is(g.t, "Begin", g.w.Begin(g.m, p), api.OK)
	g.patients[p] = patient{saved: api.Context{PC: uint32(g.c.Partitions[p].Entry)}}
}

func (g *ground) trap(p, trap int, pc uint32) {
	g.t.Helper()
	x, how := &g.patients[p], g.c.Partitions[p]
	x.Trap, x.PC = trap, pc
	x.State = api.StateRestart
	if how.Action == api.ActionHalt || x.Restarts == how.Restarts {
		x.State = api.StateHalted
	}
	traps(g.t, g.w, g.m, p, trap, pc, x.State == api.StateHalted, api.OK)
}

func (g *ground) load(p int) {
	g.t.Helper()
	x, how := &g.patients[p], g.c.Partitions[p]
	switch x.State {
	case api.StateRestart:
		x.State = api.StateReady
		x.Restarts++
		loads(g.t, g.w, g.m, p, api.Context{PC: uint32(how.Entry)}, how.Action, api.OK)
		return
	case api.StateYielded:
		x.State = api.StateReady
	}
	loads(g.t, g.w, g.m, p, x.saved, api.ActionHalt, api.OK)
}

// some does any call for a partition, or lets it tell its device a word.
func (g *ground) some(r *rand.Rand, p int) {
	g.t.Helper()
	x := &g.patients[p]
	switch r.IntN(12) {
	case 0:
		if r.IntN(4) == 0 {
			g.begin(p)
		}
	case 1, 2, 3:
		g.trap(p, 1+r.IntN(6), []uint32{0, r.Uint32()}[r.IntN(2)])
	case 4:
		is(g.t, "Yield", g.w.Yield(g.m, p), api.OK)
		x.State = api.StateYielded
	case 5:
		is(g.t, "Stop", g.w.Stop(g.m, p), api.OK)
		x.State = api.StateHalted
	case 6, 7, 8:
		g.load(p)
	case 9, 10:
		x.saved = anything(r)
		is(g.t, "Save", g.w.Save(g.m, p, x.saved), api.OK)
	case 11:
		x.Outs = r.IntN(g.c.Partitions[p].Outputs + 1)
		is(g.t, "Write", g.m.Write(g.l.Partitions[p].State+4, uint32(x.Outs)), api.OK)
	}
}

// P23.2 to P23.8: calls in any order on any configuration, held against a model, with all words of the memory; each state is right behind each call.
func TestModel(t *testing.T) {
	for seed := range uint64(150) {
		r := rand.New(rand.NewPCG(seed, 23))
		g := groundOf(t, r)
		for range 200 {
			p := r.IntN(len(g.patients))
			g.some(r, p)
			g.holds()
			stands(t, g.w, g.m, p, g.patients[p].Status, api.OK)
			if !isRight(g.patients[p].Status, g.c.Partitions[p]) {
				t.Errorf("the state %v of %d is not right", g.patients[p].Status, p)
			}
		}
		if t.Failed() {
			t.Fatalf("seed %d: %+v", seed, g.c)
		}
	}
}

// Any five words near the edges: they are a state just if the chapter says so, and then each call leaves one that is.
func TestStates(t *testing.T) {
	first := []int{0, 1, 2, 3, 4, 1<<32 - 1}
	for seed := range uint64(30) {
		r := rand.New(rand.NewPCG(seed, 238))
		g := groundOf(t, r)
		for range 400 {
			p := r.IntN(len(g.patients))
			how, at := g.c.Partitions[p], g.l.Partitions[p].State
			s := api.Status{
				State: first[r.IntN(len(first))], Restarts: max(how.Restarts-1+r.IntN(3), 0), Trap: r.IntN(8),
				PC: []uint32{0, 0, 1, r.Uint32()}[r.IntN(4)], Outs: max(how.Outputs-1+r.IntN(3), 0),
			}
			was := []uint32{uint32(s.State), uint32(s.Restarts), uint32(s.Trap), s.PC, uint32(s.Outs)}
			is(t, "Lay", g.m.Lay(at, was), api.OK)
			if isRight(s, how) {
				g.patients[p].Status = s
				g.some(r, p)
				stands(t, g.w, g.m, p, g.patients[p].Status, api.OK)
			} else {
				before := g.m.Words()
				refuses(t, g.w, g.m, p, api.ErrHealthForm)
				stays(t, g.m, before)
				g.begin(p)
			}
			g.holds()
			if t.Failed() {
				t.Fatalf("seed %d: %d with %v: %+v", seed, p, s, how)
			}
		}
	}
}

// P23.9: told by the answers alone: from a Begin on a partition is begun anew Restarts times at the most, whatever comes; never, if its action is halt.
func TestNoMoreThanRestarts(t *testing.T) {
	for seed := range uint64(80) {
		r := rand.New(rand.NewPCG(seed, 239))
		c := drawn(r)
		w, m := wardsOf(t, c), memory(t, c.Frames)
		for p, how := range c.Partitions {
			is(t, "Begin", w.Begin(m, p), api.OK)
			most := how.Restarts
			if how.Action == api.ActionHalt {
				most = 0
			}
			anew := 0
			for range 300 {
				switch r.IntN(8) {
				case 0:
					is(t, "Yield", w.Yield(m, p), api.OK)
				case 1:
					is(t, "Stop", w.Stop(m, p), api.OK)
				case 2:
					is(t, "Save", w.Save(m, p, anything(r)), api.OK)
				case 3, 4:
					halted, e := w.Trap(m, p, 1+r.IntN(6), r.Uint32())
					if e != api.OK || halted != (anew == most) {
						t.Errorf("seed %d: Trap of %d behind %d: %v, error %d", seed, p, anew, halted, e)
					}
				default:
					_, action, e := w.Load(m, p)
					if action != api.ActionHalt {
						anew++
					}
					if e != api.OK || action != api.ActionHalt && action != how.Action || anew > most {
						t.Fatalf("seed %d: Load of %d for the %d. time: %d, error %d", seed, p, anew, action, e)
					}
				}
			}
		}
	}
}

// P23.9: trap by trap just Restarts times, and behind the trap that finds restarts at Restarts it is halted, and a Load leaves it so.
func TestJustRestarts(t *testing.T) {
	for _, action := range []int{api.ActionHalt, api.ActionWarm, api.ActionCold} {
		for most := range api.MaxRestarts + 1 {
			c := known()
			c.Partitions[0].Action, c.Partitions[0].Restarts = action, most
			w, m := wardsOf(t, c), memory(t, 16)
			for range 2 {
				is(t, "Begin", w.Begin(m, 0), api.OK)
				times := most
				if action == api.ActionHalt {
					times = 0
				}
				for i := range times {
					traps(t, w, m, 0, api.TrapDivide, 1, false, api.OK)
					loads(t, w, m, 0, api.Context{PC: 5}, action, api.OK)
					stands(t, w, m, 0, api.Status{Restarts: i + 1, Trap: 5, PC: 1}, api.OK)
				}
				for range 3 {
					traps(t, w, m, 0, api.TrapLoad, 2, true, api.OK)
					for range 3 {
						loads(t, w, m, 0, api.Context{PC: 5}, api.ActionHalt, api.OK)
						stands(t, w, m, 0, api.Status{State: api.StateHalted, Restarts: times, Trap: 3, PC: 2}, api.OK)
					}
				}
			}
		}
	}
}

// P23.10: Load behind Save answers what was saved, whatever state but restart it is in, and as often as it is asked.
func TestThereAndBack(t *testing.T) {
	w := wardsOf(t, known())
	r := rand.New(rand.NewPCG(1, 2310))
	for _, state := range []uint32{api.StateReady, api.StateYielded, api.StateHalted} {
		for p, at := range []int{stateOf0, stateOf1, stateOf2} {
			m, want := marked(t)
			puts(t, m, want, at, state, 1, 6, 3, 0)
			for range 20 {
				x := anything(r)
				is(t, "Save", w.Save(m, p, x), api.OK)
				loads(t, w, m, p, x, api.ActionHalt, api.OK)
				loads(t, w, m, p, x, api.ActionHalt, api.OK)
			}
		}
	}
}

// P23.8, R7: one object, one memory: a goroutine for each partition, while others work on all words but those of the partitions.
func TestSideBySide(t *testing.T) {
	w, m := wardsOf(t, known()), memory(t, 16)
	for round := range uint32(100) {
		var all sync.WaitGroup
		for p, entry := range []uint32{5, 4095, 17} {
			all.Go(func() {
				x := context(round)
				is(t, "Begin", w.Begin(m, p), api.OK)
				loads(t, w, m, p, api.Context{PC: entry}, 0, api.OK)
				is(t, "Save", w.Save(m, p, x), api.OK)
				is(t, "Yield", w.Yield(m, p), api.OK)
				traps(t, w, m, p, api.TrapCall, round, p == 1, api.OK)
				is(t, "Stop", w.Stop(m, p), api.OK)
				loads(t, w, m, p, x, 0, api.OK)
				stands(t, w, m, p, api.Status{State: api.StateHalted, Trap: 6, PC: round}, api.OK)
			})
		}
		all.Go(func() { m.Fill(0, saveOf0, round) })
		all.Go(func() { m.Fill(stateOf0+5, 2, round) })
		all.Go(func() { m.Fill(stateOf1+5, 2, round) })
		all.Go(func() { m.Fill(stateOf2+5, 256-stateOf2-5, round) })
		all.Wait()
	}
}

// P23.8, R7: what is not named is not written, not even with what stands there: others may work on it meanwhile.
func TestOnlyNamedWords(t *testing.T) {
	w, m := wardsOf(t, known()), memory(t, 16)
	is(t, "Begin", w.Begin(m, 2), api.OK)
	for _, call := range []func(){
		func() { w.Status(m, 2) },
		func() { w.Trap(m, 2, api.TrapLoad, 1) },
		func() { w.Load(m, 2) },
		func() { w.Yield(m, 2) },
		func() { w.Load(m, 2) },
		func() { w.Stop(m, 2) },
		func() { w.Load(m, 2) },
	} {
		var both sync.WaitGroup
		both.Go(call)
		both.Go(func() { m.Read(stateOf2 + 4) })
		both.Go(func() { m.Take(saveOf2, 17) })
		both.Wait()
	}
	stands(t, w, m, 2, api.Status{State: api.StateHalted, Restarts: 1, Trap: 3, PC: 1}, api.OK)
}

// Wards keep nothing that a call changes: what they answer hangs on the memory that they are handed, not on the calls ahead.
func TestNothingKept(t *testing.T) {
	w := wardsOf(t, known())
	one, other := memory(t, 16), memory(t, 16)
	is(t, "Begin", w.Begin(one, 0), api.OK)
	is(t, "Begin", w.Begin(other, 0), api.OK)
	is(t, "Save", w.Save(one, 0, context(7)), api.OK)
	traps(t, w, one, 0, api.TrapLoad, 1, false, api.OK)
	stands(t, w, other, 0, api.Status{}, api.OK)
	loads(t, w, other, 0, api.Context{PC: 5}, 0, api.OK)
	loads(t, w, one, 0, api.Context{PC: 5}, api.ActionCold, api.OK)
	traps(t, w, one, 0, api.TrapLoad, 1, true, api.OK)
	traps(t, w, other, 0, api.TrapLoad, 1, false, api.OK)
	loads(t, wardsOf(t, known()), one, 0, context(7), 0, api.OK)
	loads(t, wardsOf(t, known()), other, 0, api.Context{PC: 5}, api.ActionCold, api.OK)
}
