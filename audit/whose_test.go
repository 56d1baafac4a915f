package audit_test

import (
	"fmt"
	"math"
	"slices"
	"testing"

	"bulkhead/api"
	"bulkhead/audit"
	"bulkhead/layout"
	"bulkhead/mem"
)

// P28.4, P28.6: of a memory and itself, or one like it, none.
func TestTouchedNone(t *testing.T) {
	c := wide(t)
	m := with(t, booted(t, c, []uint32{1, 2, 3}), word{0, 9}, word{320, 9})
	touches(t, c, m, m)
	touches(t, c, m, m.Clone())
}

// P28.4: each owner once, by the first words at which they differ: here those of a program lie ahead of the kernel's, and a region's behind them.
func TestTouchedOrder(t *testing.T) {
	c := known(t)
	c.Partitions[0].Regions = append(c.Partitions[0].Regions, api.Region{Page: 9, Pages: 1, Frame: 60, Rights: 1})
	a := booted(t, c)
	b := booted(t, c, []uint32{7, 8})
	touches(t, c, a, b, api.Owner{Kind: api.OwnRegion})
	with(t, b, word{640, 1}, word{0, 1}, word{641, 1}, word{15, 1}, word{16 * 60, 5}, word{16 * 20, 5}, word{16*64 - 1, 6})
	touches(t, c, a, b, api.Owner{}, api.Owner{Kind: api.OwnRegion}, api.Owner{Kind: api.OwnRegion, Index: 1}, api.Owner{Kind: api.OwnBarrier})
	a = b.Clone()
	with(t, a, word{16 * 60, 0}, word{663, 9}, word{705, 9})
	touches(t, c, a, b, api.Owner{Kind: api.OwnState}, api.Owner{Kind: api.OwnTable}, api.Owner{Kind: api.OwnRegion})
}

// P28.4: one word after the other, whatever its owner is; and all words at once.
func TestTouchedEach(t *testing.T) {
	c := wide(t)
	a := booted(t, c)
	var all []api.Owner
	every := booted(t, c)
	for at := range 16 * c.Frames {
		w, _ := a.Read(at)
		whose, e := layout.Owner(c, at)
		if e != api.OK {
			t.Fatalf("Owner(%d): error %d", at, e)
		}
		touches(t, c, a, with(t, booted(t, c), word{at, w + 1}), whose)
		with(t, every, word{at, w ^ 1<<31})
		if !slices.Contains(all, whose) {
			all = append(all, whose)
		}
	}
	touches(t, c, a, every, all...)
	if len(all) != 26 {
		t.Errorf("%d owners: %v", len(all), all)
	}
}

// ownersOf tells the owners of a configuration's words, by asking of each word.
func ownersOf(c api.Config) map[api.Owner]int {
	out := map[api.Owner]int{}
	for at := range 16 * c.Frames {
		whose, _ := layout.Owner(c, at)
		out[whose]++
	}
	return out
}

// allowed tells what P28.5 says of a partition and an owner that there are.
func allowed(c api.Config, p int, o api.Owner) bool {
	if p == -1 {
		return o.Kind == api.OwnStage || o.Kind == api.OwnPort || o.Kind == api.OwnBarrier
	}
	end := func(sources, dests bool) bool {
		for _, q := range c.Partitions[p].Ports {
			if q.Channel == o.Index && (q.Source && sources || !q.Source && dests) {
				return true
			}
		}
		return false
	}
	switch o.Kind {
	case api.OwnRegion, api.OwnLock, api.OwnSave, api.OwnState:
		return o.Index == p
	case api.OwnChannel:
		return end(true, true)
	case api.OwnStage:
		return end(true, false)
	case api.OwnPort:
		return o.Index == p
	case api.OwnBarrier:
		return true
	}
	return false
}

// judges asks May of all partitions and owners, there or not.
func judges(t *testing.T, c api.Config) {
	t.Helper()
	there := ownersOf(c)
	for p := -2; p <= len(c.Partitions)+1; p++ {
		for kind := -1; kind <= api.OwnTable+2; kind++ {
			for index := -1; index <= 17; index++ {
				for port := -1; port <= api.MaxPorts; port++ {
					o := api.Owner{Kind: kind, Index: index, Port: port}
					got, e := audit.May(c, p, o)
					want, wrong := false, api.ErrArg
					if there[o] > 0 && p >= -1 && p < len(c.Partitions) {
						want, wrong = allowed(c, p, o), api.OK
					}
					if got != want || e != wrong {
						t.Errorf("May(%d, %v): %v, error %d, want %v, error %d", p, o, got, e, want, wrong)
					}
				}
			}
		}
	}
}

// P28.5: all that can be asked, of three configurations.
func TestMay(t *testing.T) {
	judges(t, known(t))
	judges(t, wide(t))
	judges(t, wideWithoutChannels(t))
}

// wideWithoutChannels is wide, but nobody tells anybody anything.
func wideWithoutChannels(t *testing.T) api.Config {
	t.Helper()
	c := wide(t)
	c.Channels = nil
	for p := range c.Partitions {
		c.Partitions[p].Ports = nil
	}
	return c
}

// P28.5: numbers far off.
func TestMayFarOff(t *testing.T) {
	c := known(t)
	for _, n := range []int{math.MinInt, math.MaxInt, 1 << 32, -1 << 32, 256, -256} {
		refused(t, c, n, api.Owner{Kind: api.OwnBarrier})
		refused(t, c, 0, api.Owner{Kind: n})
		for kind := range api.OwnTable + 1 {
			refused(t, c, 0, api.Owner{Kind: kind, Index: n})
			refused(t, c, 0, api.Owner{Kind: kind, Index: 1, Port: n})
			refused(t, c, -1, api.Owner{Kind: kind, Port: n})
		}
	}
}

// P28.5: who sends to itself has both ends.
func TestMayBothEnds(t *testing.T) {
	c := known(t)
	c.Partitions[0].Ports = []api.Port{{Channel: 0, Source: true}, {Channel: 0}}
	c.Partitions[1].Ports = nil
	judges(t, c)
	for _, o := range []api.Owner{{Kind: api.OwnChannel}, {Kind: api.OwnStage}, {Kind: api.OwnPort, Port: 1}} {
		if !mayIt(t, c, 0, o) || mayIt(t, c, 1, o) {
			t.Errorf("%v is not of partition 0 alone", o)
		}
	}
}

// packed is a configuration of which no word is nobody's: 48 words of the kernel's, two tables, one frame of a region. It can be given a frame more, or room, or words between.
func packed(t *testing.T, frames, room, words int) api.Config {
	t.Helper()
	return configOf(t, fmt.Sprintf(`
		memory %d
		major 182
		kernel 1 %d
		channel sampling 1
		channel sampling %d
		partition a entry 0 action halt restarts 0 inputs 0 outputs 0
		  region 0 1 0 rwx
		  port 0 source
		  port 0 dest
		  port 1 source
		  port 1 dest
		core
		  window 0 100 82
		end`, frames, room, words))
}

// P28.5: nobody is an owner just if a word is nobody's; and may never be written to.
func TestMayNobody(t *testing.T) {
	for _, x := range []struct {
		c    api.Config
		many int
	}{
		{packed(t, 6, 5, 3), 0},
		{packed(t, 6, 5, 2), 2},
		{packed(t, 7, 5, 3), 16},
		{packed(t, 7, 6, 3), 16},
	} {
		if got := ownersOf(x.c)[api.Owner{}]; got != x.many {
			t.Fatalf("%d words are nobody's, want %d", got, x.many)
		}
		judges(t, x.c)
		for p := -1; p < 1; p++ {
			if x.many == 0 {
				refused(t, x.c, p, api.Owner{})
			} else if mayIt(t, x.c, p, api.Owner{}) {
				t.Errorf("%d may write words of nobody", p)
			}
		}
	}
}

// The errors of every call, in their order: ErrNil, then ErrArg.
func TestErrors(t *testing.T) {
	c := known(t)
	m := booted(t, c)
	small, _ := mem.New(c.Frames - 1)
	great, _ := mem.New(c.Frames + 1)
	most, _ := mem.New(api.MaxFrames)
	memory := func(c api.Config, m *mem.Memory, want api.Errno) {
		t.Helper()
		if got, e := audit.Memory(c, m); got != nil || e != want {
			t.Errorf("Memory: %v, error %d, want %d", got, e, want)
		}
	}
	touched := func(c api.Config, a, b *mem.Memory, want api.Errno) {
		t.Helper()
		if got, e := audit.Touched(c, a, b); got != nil || e != want {
			t.Errorf("Touched: %v, error %d, want %d", got, e, want)
		}
	}
	for _, x := range append(loose(t), c) {
		memory(x, nil, api.ErrNil)
		touched(x, nil, nil, api.ErrNil)
		touched(x, m, nil, api.ErrNil)
		touched(x, nil, m, api.ErrNil)
		touched(x, small, nil, api.ErrNil)
		touched(x, nil, great, api.ErrNil)
	}
	for _, x := range loose(t) {
		memory(x, m, api.ErrArg)
		touched(x, m, m, api.ErrArg)
		for p := range 3 {
			refused(t, x, p-1, api.Owner{Kind: api.OwnBarrier})
		}
	}
	for _, other := range []*mem.Memory{small, great, most} {
		memory(c, other, api.ErrArg)
		touched(c, other, m, api.ErrArg)
		touched(c, m, other, api.ErrArg)
		touched(c, other, other, api.ErrArg)
	}
	if got, e := audit.Machine(nil); got != nil || e != api.ErrNil {
		t.Errorf("Machine: %v, error %d", got, e)
	}
}

// loose are configurations that do not hold together; of some the frames fit a memory of 64.
func loose(t *testing.T) []api.Config {
	t.Helper()
	var out []api.Config
	add := func(do func(c *api.Config)) {
		c := known(t)
		do(&c)
		out = append(out, c)
	}
	add(func(c *api.Config) { *c = api.Config{} })
	add(func(c *api.Config) { *c = api.Config{Frames: 64} })
	add(func(c *api.Config) { c.Major = 801 })
	add(func(c *api.Config) { c.Room = 7 })
	add(func(c *api.Config) { c.Kernel = 20 })
	add(func(c *api.Config) { c.Partitions[1].Name = "radio" })
	add(func(c *api.Config) { c.Partitions[1].Ports = nil })
	add(func(c *api.Config) { c.Partitions[0].Restarts = -1 })
	add(func(c *api.Config) { c.Cores[1][0].Partition = 1 })
	add(func(c *api.Config) { c.Frames = math.MaxInt })
	add(func(c *api.Config) { c.Kernel = math.MinInt })
	add(func(c *api.Config) { c.Partitions = make([]api.Partition, 100) })
	return out
}

// R5: nothing that is handed in is changed, and what is answered is the caller's own.
func TestNothingShared(t *testing.T) {
	c := wide(t)
	a := with(t, booted(t, c), word{320, 9}, word{322, 9})
	b := with(t, booted(t, c), word{341, 9}, word{29 * 16, 9})
	before, wordsA, wordsB := wide(t), a.Words(), b.Words()
	first, _ := audit.Memory(c, a)
	owners, _ := audit.Touched(c, a, b)
	again, _ := audit.Memory(c, a)
	if len(first) != 2 || len(owners) != 4 {
		t.Fatalf("%v, %v", first, owners)
	}
	clear(first[:cap(first)])
	clear(owners[:cap(owners)])
	if again[0].At != 320 || again[1].At != 322 {
		t.Errorf("two answers share words: %v", again)
	}
	mayIt(t, c, 1, api.Owner{})
	if fmt.Sprint(c) != fmt.Sprint(before) || !slices.Equal(a.Words(), wordsA) || !slices.Equal(b.Words(), wordsB) {
		t.Error("what was handed in has changed")
	}
}

// R3: nil and empty lists in a configuration are the same.
func TestEmpty(t *testing.T) {
	c := wideWithoutChannels(t)
	empty := wideWithoutChannels(t)
	empty.Channels = []api.Channel{}
	for p := range empty.Partitions {
		empty.Partitions[p].Ports = []api.Port{}
	}
	a, b := booted(t, c), with(t, booted(t, c), word{320, 9}, word{0, 9})
	for _, x := range []api.Config{c, empty} {
		finds(t, x, a)
		finds(t, x, b, api.Problem{Kind: api.ProblemBarrier, Index: -1, At: 320})
		touches(t, x, a, b, api.Owner{Kind: api.OwnRegion}, api.Owner{Kind: api.OwnBarrier})
		judges(t, x)
	}
}
