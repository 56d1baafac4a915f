package boot_test

import (
	"math"
	"strconv"
	"testing"

	"bulkhead/api"
	"bulkhead/boot"
	"bulkhead/mem"
)

// spoilt are configurations that do not hold together, each by another thing of the example.
func spoilt() map[string]api.Config {
	all := map[string]api.Config{}
	for name, spoil := range map[string]func(c *api.Config){
		"nothing":              func(c *api.Config) { *c = api.Config{} },
		"Frames 0":             func(c *api.Config) { c.Frames = 0 },
		"Frames -1":            func(c *api.Config) { c.Frames = -1 },
		"Frames 1025":          func(c *api.Config) { c.Frames = 1025 },
		"Frames the greatest":  func(c *api.Config) { c.Frames = math.MaxInt },
		"Frames the least":     func(c *api.Config) { c.Frames = math.MinInt },
		"Frames 47":            func(c *api.Config) { c.Frames = 47 },
		"Frames 20":            func(c *api.Config) { c.Frames = 20 },
		"Major 801":            func(c *api.Config) { c.Major = 801 },
		"Kernel 20":            func(c *api.Config) { c.Kernel = 20 },
		"Kernel 57":            func(c *api.Config) { c.Kernel = 57 },
		"Kernel -1":            func(c *api.Config) { c.Kernel = -1 },
		"Room 7":               func(c *api.Config) { c.Room = 7 },
		"Room 25":              func(c *api.Config) { c.Room = 25 },
		"no cores":             func(c *api.Config) { c.Cores = nil },
		"no windows":           func(c *api.Config) { c.Cores[1] = nil },
		"no partitions":        func(c *api.Config) { c.Partitions = nil },
		"very many partitions": func(c *api.Config) { c.Partitions = make([]api.Partition, 100000) },
		"two of one name":      func(c *api.Config) { c.Partitions[1].Name = "radio" },
		"Action 3":             func(c *api.Config) { c.Partitions[1].Action = 3 },
		"Outputs 17":           func(c *api.Config) { c.Partitions[0].Outputs = 17 },
		"no region":            func(c *api.Config) { c.Partitions[1].Regions = nil },
		"Pages the greatest":   func(c *api.Config) { c.Partitions[0].Regions[0].Pages = math.MaxInt },
		"Page -1":              func(c *api.Config) { c.Partitions[0].Regions[0].Page = -1 },
		"Frame 64":             func(c *api.Config) { c.Partitions[1].Regions[0].Frame = 64 },
		"Frame the least":      func(c *api.Config) { c.Partitions[1].Regions[0].Frame = math.MinInt },
		"Rights 8":             func(c *api.Config) { c.Partitions[1].Regions[0].Rights = 8 },
		"a frame of both":      func(c *api.Config) { c.Partitions[1].Regions[0].Frame = 11 },
		"Entry 32":             func(c *api.Config) { c.Partitions[0].Entry = 32 },
		"a port of nothing":    func(c *api.Config) { c.Partitions[0].Ports[0].Channel = 1 },
		"no destination":       func(c *api.Config) { c.Partitions[1].Ports = nil },
		"a channel of Words 0": func(c *api.Config) { c.Channels[0].Words = 0 },
		"Slack 81":             func(c *api.Config) { c.Cores[0][1] = api.Window{Partition: 1, Usable: 319, Slack: 81} },
		"split":                func(c *api.Config) { c.Cores[1][0].Partition = 1 },
	} {
		c := example()
		spoil(&c)
		all[name] = c
	}
	return all
}

// wrongPrograms are lists that Boot refuses of the example, with the partition that it tells.
func wrongPrograms() map[string]struct {
	programs [][]uint32
	at       int
} {
	long, short := make([]uint32, 33), make([]uint32, 32)
	return map[string]struct {
		programs [][]uint32
		at       int
	}{
		"too long":                           {[][]uint32{long}, 0},
		"too long, with a second":            {[][]uint32{long, nil}, 0},
		"both wrong":                         {[][]uint32{long, {5}}, 0},
		"the second wrong":                   {[][]uint32{short, {5}}, 1},
		"the second wrong, of 17 words":      {[][]uint32{nil, make([]uint32, 17)}, 1},
		"three of none":                      {make([][]uint32, 3), 2},
		"three, all right":                   {[][]uint32{short, nil, {}}, 2},
		"three, the first wrong":             {[][]uint32{long, nil, nil}, 2},
		"three, all wrong":                   {[][]uint32{long, {5}, {6}}, 2},
		"nine":                               {make([][]uint32, 9), 2},
		"very many":                          {make([][]uint32, 100000), 2},
		"MaxProgram words, 64 pages of them": {[][]uint32{make([]uint32, 1024)}, 0},
		"more than MaxProgram":               {[][]uint32{make([]uint32, 1025)}, 0},
		"the second more than MaxProgram":    {[][]uint32{short, make([]uint32, 1025)}, 1},
		"a whole space and more":             {[][]uint32{make([]uint32, 5000)}, 0},
	}
}

// P24.1: a configuration that does not hold together comes ahead of all programs.
func TestWrongConfig(t *testing.T) {
	for name, c := range spoilt() {
		refused(t, name, c, nil, api.ErrBootConfig, -1)
		for which, x := range wrongPrograms() {
			refused(t, name+", "+which, c, x.programs, api.ErrBootConfig, -1)
		}
	}
}

// P24.1: too many programs come ahead of one that does not lie in its partition; of those the first one is told.
func TestWrongPrograms(t *testing.T) {
	for name, x := range wrongPrograms() {
		refused(t, name, example(), x.programs, api.ErrBootProgram, x.at)
	}
}

// P24.1: the first of three that does not lie, wherever it is; a hole between the pages is one, too.
func TestFirstWrong(t *testing.T) {
	c := scattered()
	right := [][]uint32{counted(1, 80), counted(1, 1024), nil}
	wrong := [][]uint32{counted(1, 81), counted(1, 1025), {1}}
	for bits := range 8 {
		programs, at := make([][]uint32, 3), -1
		for p := 2; p >= 0; p-- {
			programs[p] = right[p]
			if bits>>p&1 == 1 {
				programs[p], at = wrong[p], p
			}
		}
		if at < 0 {
			booted(t, c, programs)
			continue
		}
		refused(t, strconv.Itoa(bits), c, programs, api.ErrBootProgram, at)
	}
	refused(t, "four", c, append(right, nil), api.ErrBootProgram, 3)
	refused(t, "four, all wrong", c, append(wrong, nil), api.ErrBootProgram, 3)
}

// P24.2: the errors of Anew in their order: each one ahead of all that come behind it, and no word changes.
func TestAnewErrors(t *testing.T) {
	c := example()
	m, before := marked(t, 64)
	partitions := []int{-1, -2, 2, 3, 8, 1 << 32, math.MinInt, math.MaxInt}
	wrong := [][]uint32{make([]uint32, 33), make([]uint32, 1024), make([]uint32, 1025)}
	for _, p := range append(partitions, 0, 1) {
		for _, program := range append(wrong, nil, []uint32{5}) {
			anew(t, "nil", nil, c, p, program, api.ErrNil)
			anew(t, "nil of nothing", nil, api.Config{}, p, program, api.ErrNil)
			for name, bad := range spoilt() {
				anew(t, name, m, bad, p, program, api.ErrBootConfig)
			}
			for _, frames := range []int{1, 12, 21, 48, 63, 65, 1024} {
				other, words := marked(t, frames)
				anew(t, "other frames", other, c, p, program, api.ErrBootConfig)
				has(t, other, words)
			}
		}
	}
	for _, p := range partitions {
		for _, program := range append(wrong, nil, []uint32{5}) {
			anew(t, "no partition", m, c, p, program, api.ErrArg)
		}
	}
	for _, program := range wrong {
		anew(t, "radio", m, c, 0, program, api.ErrBootProgram)
		anew(t, "lamp", m, c, 1, program, api.ErrBootProgram)
	}
	anew(t, "one word", m, c, 1, []uint32{5}, api.ErrBootProgram)
	has(t, m, before)
}

// P24.2: a memory of as many frames as a configuration says that does not hold together.
func TestAnewOfFittingFrames(t *testing.T) {
	for _, frames := range []int{20, 47, 64} {
		c := example()
		c.Frames, c.Room = frames, 7
		m, before := marked(t, frames)
		anew(t, strconv.Itoa(frames), m, c, 0, nil, api.ErrBootConfig)
		has(t, m, before)
	}
}

// R1: every call ends and none panics, also of what is as great as it may be handed in.
func TestNothingPanics(t *testing.T) {
	m, before := marked(t, 64)
	for _, n := range []int{math.MinInt, math.MinInt + 1, -1 << 32, -1, 0, 1, 1 << 31, 1 << 60, math.MaxInt - 1, math.MaxInt} {
		c := example()
		c.Partitions[0].Regions[0] = api.Region{Page: n, Pages: n, Frame: n, Rights: n}
		refused(t, "a region", c, [][]uint32{{1}}, api.ErrBootConfig, -1)
		anew(t, "a region", m, c, 0, []uint32{1}, api.ErrBootConfig)
		c = api.Config{Frames: n, Major: n, Kernel: n, Room: n, Partitions: example().Partitions}
		refused(t, "the whole", c, [][]uint32{{1}}, api.ErrBootConfig, -1)
		anew(t, "the whole", m, c, n, []uint32{1}, api.ErrBootConfig)
	}
	var none *mem.Memory
	if e := boot.Anew(none, example(), 0, nil); e != api.ErrNil {
		t.Errorf("a nil memory: error %d", e)
	}
	has(t, m, before)
}
