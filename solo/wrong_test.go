package solo_test

import (
	"math"
	"testing"

	"bulkhead/api"
	"bulkhead/kernel"
	"bulkhead/solo"
)

// unbootable are recipes that boot.Boot or device.New refuses.
func unbootable(t *testing.T) map[string]recipe {
	t.Helper()
	out := map[string]recipe{}
	add := func(what string, do func(r *recipe)) {
		r := known(t)
		do(&r)
		out[what] = r
	}
	add("no configuration", func(r *recipe) { r.c = api.Config{} })
	add("no configuration and no programs", func(r *recipe) { *r = recipe{} })
	add("another major frame", func(r *recipe) { r.c.Major = 401 })
	add("a major frame far off", func(r *recipe) { r.c.Major = math.MinInt })
	add("too little room", func(r *recipe) { r.c.Room = 3 })
	add("no core", func(r *recipe) { r.c.Cores = nil })
	add("no partition", func(r *recipe) { r.c.Partitions = nil })
	add("a window of no partition", func(r *recipe) { r.c.Cores[0][0].Partition = 1 })
	add("a window of endless time", func(r *recipe) { r.c.Cores[0][0].Usable = math.MaxInt })
	add("a region that is not there", func(r *recipe) { r.c.Partitions[0].Regions[0].Frame = 99 })
	add("a port of no channel", func(r *recipe) { r.c.Partitions[0].Ports = []api.Port{{Channel: 0}} })
	add("two programs", func(r *recipe) { r.programs = append(r.programs, nil) })
	add("a program too long", func(r *recipe) { r.programs[0] = make([]uint32, 17) })
	add("a program far too long", func(r *recipe) { r.programs[0] = make([]uint32, 5000) })
	add("a feed of no partition", func(r *recipe) { r.feeds = []api.Feed{{Partition: 1}} })
	add("a feed ahead of all", func(r *recipe) { r.feeds[0].Epoch = -1 })
	add("a feed behind all", func(r *recipe) { r.feeds[0].Epoch = api.MaxEpoch })
	add("a feed too long", func(r *recipe) { r.feeds[0].Words = []uint32{1, 2} })
	add("a feed twice", func(r *recipe) { r.feeds = append(r.feeds, api.Feed{}) })
	add("too many feeds", func(r *recipe) {
		for len(r.feeds) <= api.MaxFeeds {
			r.feeds = append(r.feeds, api.Feed{Epoch: len(r.feeds)})
		}
	})
	return out
}

// wrongEpochs are numbers of frames that may not be.
func wrongEpochs() []int {
	return []int{-1, -8, api.MaxEpochs + 1, 100, api.MaxEpoch, 1 << 32, 1<<32 + 1, math.MaxInt, math.MinInt}
}

// P27.1: ErrSoloBoot, just where kernel.New refuses, and ahead of ErrSoloEpochs.
func TestUnbootable(t *testing.T) {
	for what, r := range unbootable(t) {
		if _, e := kernel.New(r.c, r.programs, r.feeds); e != api.ErrKernelBoot {
			t.Errorf("%s: kernel.New: error %d", what, e)
		}
		for _, epochs := range append(wrongEpochs(), 0, 1, api.MaxEpochs) {
			if traces, e := solo.Run(r.c, r.programs, r.feeds, epochs); traces != nil || e != api.ErrSoloBoot {
				t.Errorf("%s, %d frames: %v, error %d", what, epochs, traces, e)
			}
		}
	}
}

// P27.1: ErrSoloEpochs; and the least and the greatest number of frames that may be.
func TestEpochs(t *testing.T) {
	r := known(t)
	for _, epochs := range wrongEpochs() {
		if traces, e := solo.Run(r.c, r.programs, r.feeds, epochs); traces != nil || e != api.ErrSoloEpochs {
			t.Errorf("%d frames: %v, error %d", epochs, traces, e)
		}
	}
	r.programs = [][]uint32{words(t, "hyp 0\njmp -1")}
	for epochs := range api.MaxEpochs + 1 {
		// Each frame's only window ends with a hyp 0.
		ends := 0
		for _, x := range r.run(t, epochs)[0].Seen {
			if x.Word == 0x78000000 {
				ends++
			}
		}
		if ends != epochs {
			t.Errorf("%d frames: %d were played", epochs, ends)
		}
	}
}

// P27.1: what may just be booted: as many feeds as may be, with epochs up to the last one; fewer programs than partitions, and none.
func TestJustBootable(t *testing.T) {
	r := known(t)
	for epoch := range api.MaxFeeds - 2 {
		r.feeds = append(r.feeds, api.Feed{Epoch: epoch + 1})
	}
	r.feeds = append(r.feeds, api.Feed{Epoch: api.MaxEpoch - 1, Words: []uint32{5}})
	if len(r.feeds) != api.MaxFeeds || !same(r.run(t, 2), known(t).run(t, 2)) {
		t.Errorf("%d feeds: %+v", len(r.feeds), r.run(t, 2))
	}
	two := pair(t)
	for n := range 3 {
		few := recipe{two.c, two.programs[:n], two.feeds}
		full := recipe{two.c, append(few.programs[:n:n], make([][]uint32, 2-n)...), two.feeds}
		if !same(few.run(t, 3), full.run(t, 3)) {
			t.Errorf("%d programs: %+v", n, few.run(t, 3))
		}
	}
}

// pair is a machine of two partitions that tell one another, with inputs and outputs, and a trap now and then.
func pair(t *testing.T) recipe {
	t.Helper()
	r := recipeOf(t, `
		memory 20
		major 500
		kernel 4 14
		channel queuing 2 2
		channel sampling 2
		partition one entry 0 action warm restarts 2 inputs 2 outputs 2
		  region 0 2 0 rwx
		  port 0 source
		  port 1 dest
		partition two entry 1 action cold restarts 1 inputs 0 outputs 3
		  region 0 1 2 rwx
		  port 0 dest
		  port 1 source
		core
		  window 0 80 82
		  window 1 80 82
		  window 0 90 86
		end`,
		"li r3, 1\nhyp 1\nhyp 4\nmov r1, r2\nhyp 5\nhyp 0\nli r2, 20\nli r1, 1\nhyp 2\nhyp 7",
		"word 9\nli r2, 14\nhyp 2\nld r1, r0, 14\nhyp 5\nhyp 0\nli r1, 1\nli r3, 2\nhyp 1\nhyp 0\ndiv r1, r1, r0")
	r.feeds = []api.Feed{{Partition: 0, Epoch: 1, Words: []uint32{5, 6}}, {Partition: 0, Epoch: 0, Words: []uint32{7}}, {Partition: 1, Epoch: 0}}
	return r
}

// spoil writes over all that a list has, its spare room too.
func spoil[T any](list []T, with T) {
	list = list[:cap(list)]
	for i := range list {
		list[i] = with
	}
}

// spoilTraces writes over traces.
func spoilTraces(traces []api.Trace) {
	for _, x := range traces {
		spoil(x.Seen, api.Seen{Partition: 99})
		spoil(x.Events, api.Event{Partition: 99})
		spoil(x.Outs, api.Out{Partition: 99})
	}
	spoil(traces, api.Trace{})
}

// roomy makes a list with a guard in the room behind its end.
func roomy[T any](list []T, guard ...T) []T {
	return append(list[:len(list):len(list)], guard...)[:len(list)]
}

// room tells what stands in the room behind a list's end, as far as a guard was laid there.
func room[T any](list []T, guard ...T) []T { return list[len(list) : len(list)+len(guard)] }

// R5: what is handed in is not changed, the room behind it neither.
func TestNothingChanged(t *testing.T) {
	r, want := pair(t), pair(t).run(t, 5)
	guard := []uint32{1, 2, 3, 4, 5, 6, 7, 8}
	for p := range r.programs {
		r.programs[p] = roomy(r.programs[p], guard...)
	}
	for i := range r.feeds {
		r.feeds[i].Words = roomy(r.feeds[i].Words, guard...)
	}
	r.programs = roomy(r.programs, guard)
	r.feeds = roomy(r.feeds, api.Feed{Partition: 1, Words: guard})
	for range 3 {
		if got := r.run(t, 5); !same(got, want) {
			t.Fatalf("%+v, want\n%+v", got, want)
		}
	}
	if !same(r, pair(t)) {
		t.Error("Run has changed what it was given")
	}
	for p := range r.programs {
		if !same(room(r.programs[p], guard...), guard) {
			t.Errorf("the room behind the program %d has changed", p)
		}
	}
	for i := range r.feeds {
		if !same(room(r.feeds[i].Words, guard...), guard) {
			t.Errorf("the room behind the words of the feed %d has changed", i)
		}
	}
	if !same(room(r.programs, guard), [][]uint32{guard}) || !same(room(r.feeds, api.Feed{}), []api.Feed{{Partition: 1, Words: guard}}) {
		t.Error("the room behind the programs or the feeds has changed")
	}
}

// R5, R6: each answer is new memory, no two lists of one share any; what one Run leaves is not seen by the next one.
func TestNothingShared(t *testing.T) {
	r, want := pair(t), pair(t).run(t, 6)
	first := r.run(t, 6)
	second := r.run(t, 6)
	spoilTraces(first)
	if !same(second, want) {
		t.Fatal("two answers share memory")
	}
	for p := range second {
		spoil(second[p].Seen, api.Seen{Partition: 99})
		if !same(second[p].Events, want[p].Events) || !same(second[p].Outs, want[p].Outs) {
			t.Fatal("two lists of one answer share memory")
		}
		for q := p + 1; q < len(second); q++ {
			if !same(second[q], want[q]) {
				t.Fatal("two traces share memory")
			}
		}
	}
	if !same(r.run(t, 6), want) || !same(r, pair(t)) {
		t.Error("what was answered is kept, or is what was given")
	}
}

// R3: nil and empty lists are the same.
func TestNilAndEmpty(t *testing.T) {
	r := known(t)
	want := recipe{r.c, nil, nil}.run(t, 2)
	r.c.Channels, r.c.Partitions[0].Ports = []api.Channel{}, []api.Port{}
	for _, programs := range [][][]uint32{nil, {}, {nil}, {{}}} {
		for _, feeds := range [][]api.Feed{nil, {}, {{}}, {{Words: []uint32{}}}} {
			if got := (recipe{r.c, programs, feeds}).run(t, 2); !same(got, want) {
				t.Errorf("%v, %v: %+v", programs, feeds, got)
			}
		}
	}
}
