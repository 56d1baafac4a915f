package kernel_test

import (
	"math"
	"slices"
	"testing"

	"bulkhead/api"
	"bulkhead/kernel"
)

// P26.2, P26.4, P26.5, R2: a nil machine.
func TestNil(t *testing.T) {
	var k *kernel.Kernel
	for _, core := range []int{0, -1, 9} {
		if turn, e := k.Step(core); !same(turn, api.Turn{}) || e != api.ErrNil {
			t.Errorf("Step(%d): %+v, error %d", core, turn, e)
		}
		if turns, e := k.Ahead(core); len(turns) != 0 || e != api.ErrNil {
			t.Errorf("Ahead(%d): %+v, error %d", core, turns, e)
		}
	}
	if !same(k.Config(), api.Config{}) || len(k.Programs())+len(k.Feeds())+len(k.Cores())+len(k.Partitions())+len(k.States()) != 0 {
		t.Error("a nil machine tells something")
	}
	if k.Epoch() != 0 || k.Memory() != nil {
		t.Error("a nil machine has an epoch, or a memory")
	}
}

// P26.2, P26.4: no such core; nothing changes.
func TestNoSuchCore(t *testing.T) {
	for _, r := range []recipe{known(t), shared(t)} {
		k := r.boot(t)
		before, words := k.States(), k.Memory().Words()
		for _, core := range []int{len(r.c.Cores), -1, -2, 4, 5, math.MaxInt, math.MinInt, 1 << 32} {
			if turn, e := k.Step(core); !same(turn, api.Turn{}) || e != api.ErrKernelCore {
				t.Errorf("Step(%d): %+v, error %d", core, turn, e)
			}
			if turns, e := k.Ahead(core); len(turns) != 0 || e != api.ErrKernelCore {
				t.Errorf("Ahead(%d): %+v, error %d", core, turns, e)
			}
		}
		if !same(k.States(), before) || !slices.Equal(k.Memory().Words(), words) {
			t.Error("a refused step has changed something")
		}
	}
}

// unbootable are recipes that boot.Boot or device.New refuses.
func unbootable(t *testing.T) map[string]recipe {
	t.Helper()
	out := map[string]recipe{}
	add := func(what string, do func(r *recipe)) {
		r := known(t)
		do(&r)
		out[what] = r
	}
	add("no configuration", func(r *recipe) { r.c = api.Config{} })
	add("another major frame", func(r *recipe) { r.c.Major = 401 })
	add("too little room", func(r *recipe) { r.c.Room = 3 })
	add("no core", func(r *recipe) { r.c.Cores = nil })
	add("two programs", func(r *recipe) { r.programs = append(r.programs, nil) })
	add("a program too long", func(r *recipe) { r.programs[0] = make([]uint32, 17) })
	add("a program far too long", func(r *recipe) { r.programs[0] = make([]uint32, 5000) })
	add("a feed of no partition", func(r *recipe) { r.feeds = []api.Feed{{Partition: 1}} })
	add("a feed of another epoch", func(r *recipe) { r.feeds[0].Epoch = api.MaxEpoch })
	add("a feed too long", func(r *recipe) { r.feeds[0].Words = []uint32{1, 2} })
	add("a feed twice", func(r *recipe) { r.feeds = append(r.feeds, api.Feed{}) })
	add("too many feeds", func(r *recipe) {
		for len(r.feeds) <= api.MaxFeeds {
			r.feeds = append(r.feeds, api.Feed{Epoch: len(r.feeds)})
		}
	})
	add("all of them", func(r *recipe) {
		r.c.Major, r.programs, r.feeds = 0, make([][]uint32, 9), make([]api.Feed, 5000)
	})
	return out
}

// P26.1, P26.6: ErrKernelBoot, of Restore ahead of words and states that may not be.
func TestUnbootable(t *testing.T) {
	k := known(t).boot(t)
	words, states := k.Memory().Words(), k.States()
	for what, r := range unbootable(t) {
		if k, e := kernel.New(r.c, r.programs, r.feeds); k != nil || e != api.ErrKernelBoot {
			t.Errorf("%s: New: error %d", what, e)
		}
		if k, e := kernel.Restore(r.c, r.programs, r.feeds, words, states); k != nil || e != api.ErrKernelBoot {
			t.Errorf("%s: Restore: error %d", what, e)
		}
		if k, e := kernel.Restore(r.c, r.programs, r.feeds, nil, nil); k != nil || e != api.ErrKernelBoot {
			t.Errorf("%s: Restore of nothing: error %d", what, e)
		}
	}
	// What may just be booted.
	r := known(t)
	r.programs = nil
	for epoch := range api.MaxFeeds - 1 {
		r.feeds = append(r.feeds, api.Feed{Epoch: epoch + 1})
	}
	r.boot(t)
}

// P26.5: what a machine was made of is told: programs as many as were given, feeds as the devices tell them.
func TestMadeOf(t *testing.T) {
	r := shared(t)
	k := r.boot(t)
	for range 50 {
		if !same(k.Config(), r.c) || !same(k.Programs(), r.programs) {
			t.Fatalf("Config %+v, Programs %v", k.Config(), k.Programs())
		}
		want := []api.Feed{{Partition: 0, Epoch: 1, Words: []uint32{7}}, {Partition: 0, Epoch: 2, Words: []uint32{5, 6}}}
		if got := k.Feeds(); !same(got, want) {
			t.Fatalf("Feeds %v, want %v", got, want)
		}
		steps(t, k, 0)
		steps(t, k, 1)
		k = r.again(t, k)
	}
	for _, programs := range [][][]uint32{nil, {}, {nil}, {{}, {7}}, {{1}, nil, nil}} {
		r.programs = programs
		if got := r.boot(t).Programs(); !same(got, programs) {
			t.Errorf("Programs %v, want %v", got, programs)
		}
	}
}

// P26.5: Cores, Partitions and Epoch tell what States and the memory's words say.
func TestViews(t *testing.T) {
	r := shared(t)
	k := r.boot(t)
	for i := range 300 {
		steps(t, k, i/7%2)
		words, states := k.Memory().Words(), k.States()
		if uint32(k.Epoch()) != words[65] {
			t.Fatalf("Epoch %d, the word is %d", k.Epoch(), words[65])
		}
		for core, v := range k.Cores() {
			s := states[core]
			whose := -1
			if s.Mode == api.ModeRun || s.Mode == api.ModeCall {
				whose = r.c.Cores[core][s.Window].Partition
			}
			want := api.CoreView{Epoch: s.Epoch, Window: s.Window, Used: s.Used, Mode: s.Mode, Partition: whose, Context: s.Held.Context}
			if v != want {
				t.Fatalf("the core %d is %+v, want %+v", core, v, want)
			}
		}
		for p, at := range []int{85, 109, 133} {
			w := words[at : at+5]
			want := api.Status{State: int(w[0]), Restarts: int(w[1]), Trap: int(w[2]), PC: w[3], Outs: int(w[4])}
			if got := k.Partitions()[p]; got != want {
				t.Fatalf("the partition %d is %+v, want %+v", p, got, want)
			}
		}
	}
	if k.Epoch() < 2 {
		t.Errorf("Epoch %d", k.Epoch())
	}
}

// spoil writes over all that a list has, its spare room too.
func spoil[T any](list []T, with T) {
	list = list[:cap(list)]
	for i := range list {
		list[i] = with
	}
}

// spoilConfig writes over a configuration's lists.
func spoilConfig(c api.Config) {
	for _, core := range c.Cores {
		spoil(core, api.Window{Partition: 7, Usable: 1, Slack: 1})
	}
	for _, p := range c.Partitions {
		spoil(p.Regions, api.Region{Page: 9, Pages: 9, Frame: 9})
		spoil(p.Ports, api.Port{Channel: 9})
	}
	spoil(c.Cores, nil)
	spoil(c.Partitions, api.Partition{})
	spoil(c.Channels, api.Channel{})
}

// spoilStates writes over the lists of states.
func spoilStates(states []api.CoreState) {
	for _, s := range states {
		for _, set := range s.Held.Lines {
			spoil(set, 99)
		}
		spoil(s.Held.Lines, nil)
		spoil(s.Held.Leaves, api.Leaf{Page: 99})
		spoil(s.Chain, 99)
		spoil(s.Tickets, 99)
	}
	spoil(states, api.CoreState{})
}

// spoilLists writes over lists of words.
func spoilLists(lists [][]uint32) {
	for _, l := range lists {
		spoil(l, 0xdead)
	}
	spoil(lists, nil)
}

// spoilFeeds writes over feeds.
func spoilFeeds(feeds []api.Feed) {
	for _, f := range feeds {
		spoil(f.Words, 0xdead)
	}
	spoil(feeds, api.Feed{})
}

// R5: what is handed in is neither changed nor kept, and what is told is nobody else's.
func TestNothingShared(t *testing.T) {
	still := shared(t).boot(t)
	given := shared(t)
	k := given.boot(t)
	if !same(given, shared(t)) {
		t.Fatal("New has changed what it was given")
	}
	spoilConfig(given.c)
	spoilLists(given.programs)
	spoilFeeds(given.feeds)
	for i := range 400 {
		core := i / 5 % 2
		turn := steps(t, k, core)
		if want := steps(t, still, core); !same(turn, want) {
			t.Fatalf("the step %d: %+v, want %+v", i, turn, want)
		}
		spoil(turn.Seen, api.Seen{})
		spoil(turn.Events, api.Event{})
		spoil(turn.Outs, api.Out{})
		spoilConfig(k.Config())
		spoilLists(k.Programs())
		spoilFeeds(k.Feeds())
		spoilStates(k.States())
		spoil(k.Cores(), api.CoreView{})
		spoil(k.Partitions(), api.Status{})
		k.Memory().Fill(0, 384, 0xdead)
		if !same(k.States(), still.States()) || !slices.Equal(k.Memory().Words(), still.Memory().Words()) {
			t.Fatalf("behind %d steps it is another machine", i)
		}
		if i%9 == 0 {
			k = restoredApart(t, k)
		}
	}
	if !same(k.Config(), still.Config()) || !same(k.Programs(), still.Programs()) || !same(k.Feeds(), still.Feeds()) {
		t.Error("it tells to be made of other things")
	}
}

// restoredApart makes a machine anew, and then writes over all of which it was made.
func restoredApart(t *testing.T, k *kernel.Kernel) *kernel.Kernel {
	t.Helper()
	made, x := shared(t), scene{w: k.Memory().Words(), s: k.States()}
	n := made.restore(t, x.w, x.s)
	if !same(made, shared(t)) || !slices.Equal(x.w, k.Memory().Words()) || !same(x.s, k.States()) {
		t.Fatal("Restore has changed what it was given")
	}
	spoilConfig(made.c)
	spoilLists(made.programs)
	spoilFeeds(made.feeds)
	spoilStates(x.s)
	spoil(x.w, 0xdead)
	return n
}
