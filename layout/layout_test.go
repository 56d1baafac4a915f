package layout_test

import (
	"math"
	"reflect"
	"slices"
	"testing"

	"bulkhead/api"
	"bulkhead/layout"
)

// example is the configuration of the document's examples.
func example() api.Config {
	return api.Config{
		Frames: 9, Kernel: 2,
		Partitions: []api.Partition{
			{Regions: []api.Region{{Page: 0, Pages: 2, Frame: 0}}, Ports: []api.Port{{Channel: 0, Source: true}}},
			{Regions: []api.Region{{Page: 15, Pages: 2, Frame: 0}}, Ports: []api.Port{{Channel: 0}, {Channel: 0}}},
		},
		Channels: []api.Channel{{Kind: api.KindSampling, Words: 3}},
	}
}

// alone is a configuration of one partition with these regions and nothing else.
func alone(kernel int, regions ...api.Region) api.Config {
	return api.Config{Frames: api.MaxFrames, Kernel: kernel, Partitions: []api.Partition{{Regions: regions}}}
}

// joined is a configuration of one partition that sends over one channel to itself, to so many ports.
func joined(h api.Channel, dests int) api.Config {
	c := alone(0)
	c.Partitions[0].Ports = append([]api.Port{{Source: true}}, make([]api.Port, dests)...)
	c.Channels = []api.Channel{h}
	return c
}

// same tells whether two layouts are the same; nil and empty lists are.
func same(a, b api.Layout) bool {
	return a.Barrier == b.Barrier && a.End == b.End &&
		slices.EqualFunc(a.Partitions, b.Partitions, func(p, q api.PartitionPlace) bool {
			return p.Lock == q.Lock && p.Save == q.Save && p.State == q.State && p.Root == q.Root && slices.Equal(p.Tables, q.Tables)
		}) &&
		slices.EqualFunc(a.Channels, b.Channels, func(g, h api.ChannelPlace) bool {
			return g.Lock == h.Lock && g.Stage == h.Stage && g.Partition == h.Partition && g.Port == h.Port && slices.Equal(g.Dests, h.Dests)
		})
}

func wantOf(t *testing.T, name string, c api.Config, want api.Layout) {
	t.Helper()
	if got, e := layout.Of(c); !same(got, want) || e != api.OK {
		t.Errorf("%s: Of = %+v, %d, want %+v", name, got, e, want)
	}
	if got, e := layout.Need(c); got != want.End-c.Kernel || e != api.OK {
		t.Errorf("%s: Need = %d, %d, want %d", name, got, e, want.End-c.Kernel)
	}
}

// wantRefused asks all three calls, Owner also of words that are not there: the configuration is named first.
func wantRefused(t *testing.T, name string, c api.Config) {
	t.Helper()
	if got, e := layout.Of(c); !reflect.DeepEqual(got, api.Layout{}) || e != 150 {
		t.Errorf("%s: Of = %+v, %d, want ErrLayoutConfig", name, got, e)
	}
	if got, e := layout.Need(c); got != 0 || e != 150 {
		t.Errorf("%s: Need = %d, %d, want ErrLayoutConfig", name, got, e)
	}
	for _, at := range []int{32, 0, -1, 144, math.MaxInt, math.MinInt} {
		if got, e := layout.Owner(c, at); got != (api.Owner{}) || e != 150 {
			t.Errorf("%s: Owner(%d) = %v, %d, want ErrLayoutConfig", name, at, got, e)
		}
	}
}

func wantOwner(t *testing.T, c api.Config, at int, want api.Owner, wantErr api.Errno) {
	t.Helper()
	if got, e := layout.Owner(c, at); got != want || e != wantErr {
		t.Errorf("Owner(%d) = %v, %d, want %v, %d", at, got, e, want, wantErr)
	}
}

// P15.1, P15.2, the examples.
func TestExample(t *testing.T) {
	wantOf(t, "the example", example(), api.Layout{
		Barrier: 32,
		Partitions: []api.PartitionPlace{
			{Lock: 34, Save: 36, State: 53, Root: 7, Tables: []int{8}},
			{Lock: 58, Save: 60, State: 77, Root: 9, Tables: []int{10, 11}},
		},
		Channels: []api.ChannelPlace{{Lock: 82, Stage: 84, Partition: 0, Port: 0, Dests: []api.DestPlace{{Partition: 1, Port: 0, At: 89}, {Partition: 1, Port: 1, At: 95}}}},
		End:      12,
	})
	if n, e := layout.Need(example()); n != 10 || e != api.OK {
		t.Errorf("Need = %d, %d, want 10", n, e)
	}
}

// P15.1, P15.2: without partitions there is the barrier alone, wherever the area begins.
func TestBarrierAlone(t *testing.T) {
	for kernel := range api.MaxFrames {
		wantOf(t, "nothing", api.Config{Kernel: kernel}, api.Layout{Barrier: 16 * kernel, End: kernel + 1})
	}
}

// P15.1: a partition without regions has its root alone, in the next frame.
func TestRootAlone(t *testing.T) {
	wantOf(t, "no regions", alone(1), api.Layout{
		Barrier:    16,
		Partitions: []api.PartitionPlace{{Lock: 18, Save: 20, State: 37, Root: 3}},
		End:        4,
	})
}

// 'Where it lies': if the word behind the last port begins a frame, the roots begin there.
func TestFrameIsFull(t *testing.T) {
	for words, root := range map[int]int{3: 3, 4: 3, 5: 4} {
		c := joined(api.Channel{Kind: api.KindSampling, Words: words}, 2)
		l, e := layout.Of(c)
		if e != api.OK || l.Partitions[0].Root != root || l.End != root+1 {
			t.Errorf("Words %d: %+v, %d, want root %d", words, l, e, root)
		}
		last := l.Channels[0].Dests[1].At + layout.Port(c.Channels[0]) - 1
		if words == 4 && last != 47 {
			t.Errorf("the last port ends at %d, not at 47", last)
		}
		wantOwner(t, c, last, api.Owner{Kind: api.OwnPort, Index: 0, Port: 2}, api.OK)
		wantOwner(t, c, root*16, api.Owner{Kind: api.OwnTable}, api.OK)
		for at := last + 1; at < root*16; at++ {
			wantOwner(t, c, at, api.Owner{}, api.OK)
		}
	}
}

// P15.1: a table for each sixteen pages of which one lies in a region, t rising whatever the regions' order.
func TestTables(t *testing.T) {
	for _, x := range []struct {
		name    string
		regions []api.Region
		want    int
	}{
		{"the first page", []api.Region{{Page: 0, Pages: 1}}, 1},
		{"the last page", []api.Region{{Page: 255, Pages: 1}}, 1},
		{"sixteen pages", []api.Region{{Page: 16, Pages: 16}}, 1},
		{"seventeen pages behind", []api.Region{{Page: 16, Pages: 17}}, 2},
		{"one page ahead", []api.Region{{Page: 15, Pages: 17}}, 2},
		{"both", []api.Region{{Page: 15, Pages: 18}}, 3},
		{"all pages", []api.Region{{Page: 0, Pages: 256}}, 16},
		{"two in one table", []api.Region{{Page: 31, Pages: 1}, {Page: 16, Pages: 2}}, 1},
		{"two of the same pages", []api.Region{{Page: 14, Pages: 4}, {Page: 14, Pages: 4}}, 2},
		{"the last one first", []api.Region{{Page: 240, Pages: 16}, {Page: 3, Pages: 1}, {Page: 100, Pages: 1}}, 3},
		{"eight", slices.Repeat([]api.Region{{Page: 32, Pages: 16}}, 8), 1},
	} {
		var tables []int
		for i := range x.want {
			tables = append(tables, 8+i)
		}
		wantOf(t, x.name, alone(5, x.regions...), api.Layout{
			Barrier:    80,
			Partitions: []api.PartitionPlace{{Lock: 82, Save: 84, State: 101, Root: 7, Tables: tables}},
			End:        8 + x.want,
		})
	}
}

// P15.1: a channel's source wherever it stands, its destinations by partition and port, channels by their numbers.
func TestChannels(t *testing.T) {
	c := api.Config{
		Kernel: 1,
		Partitions: []api.Partition{
			{Ports: []api.Port{{Channel: 1}, {Channel: 0}}},
			{Ports: []api.Port{{Channel: 1, Source: true}, {Channel: 1}}},
			{Ports: []api.Port{{Channel: 1}, {Channel: 0, Source: true}, {Channel: 1}}},
		},
		Channels: []api.Channel{{Kind: api.KindQueuing, Words: 2, Depth: 3}, {Kind: api.KindSampling, Words: 1}},
	}
	wantOf(t, "two channels", c, api.Layout{
		Barrier: 16,
		Partitions: []api.PartitionPlace{
			{Lock: 18, Save: 20, State: 37, Root: 9},
			{Lock: 42, Save: 44, State: 61, Root: 10},
			{Lock: 66, Save: 68, State: 85, Root: 11},
		},
		Channels: []api.ChannelPlace{
			{Lock: 90, Stage: 92, Partition: 2, Port: 1, Dests: []api.DestPlace{{Partition: 0, Port: 1, At: 102}}},
			{Lock: 114, Stage: 116, Partition: 1, Port: 0, Dests: []api.DestPlace{
				{Partition: 0, Port: 0, At: 119}, {Partition: 1, Port: 1, At: 123}, {Partition: 2, Port: 0, At: 127}, {Partition: 2, Port: 2, At: 131}}},
		},
		End: 12,
	})
}

// 'What can be laid out': each thing that is wrong, by itself.
func TestRefused(t *testing.T) {
	for name, spoil := range map[string]func(c *api.Config){
		"Kernel -1":           func(c *api.Config) { c.Kernel = -1 },
		"Kernel 1024":         func(c *api.Config) { c.Kernel = 1024 },
		"Kernel the least":    func(c *api.Config) { c.Kernel = math.MinInt },
		"Kernel the greatest": func(c *api.Config) { c.Kernel = math.MaxInt },
		"nine partitions":     func(c *api.Config) { c.Partitions = append(c.Partitions, make([]api.Partition, 7)...) },
		"nine regions":        func(c *api.Config) { c.Partitions[1].Regions = slices.Repeat(c.Partitions[1].Regions, 9) },
		"Page -1":             func(c *api.Config) { c.Partitions[1].Regions[0].Page = -1 },
		"Page 255 of two":     func(c *api.Config) { c.Partitions[1].Regions[0].Page = 255 },
		"Page 256":            func(c *api.Config) { c.Partitions[1].Regions[0] = api.Region{Page: 256, Pages: 1} },
		"Page the least":      func(c *api.Config) { c.Partitions[1].Regions[0].Page = math.MinInt },
		"Page the greatest":   func(c *api.Config) { c.Partitions[1].Regions[0].Page = math.MaxInt },
		"Pages 0":             func(c *api.Config) { c.Partitions[0].Regions[0].Pages = 0 },
		"Pages -1":            func(c *api.Config) { c.Partitions[0].Regions[0].Pages = -1 },
		"Pages 257":           func(c *api.Config) { c.Partitions[0].Regions[0].Pages = 257 },
		"Pages the least":     func(c *api.Config) { c.Partitions[0].Regions[0].Pages = math.MinInt },
		"Pages the greatest":  func(c *api.Config) { c.Partitions[1].Regions[0].Pages = math.MaxInt },
		"Page and Pages":      func(c *api.Config) { c.Partitions[1].Regions[0] = api.Region{Page: math.MaxInt, Pages: math.MaxInt} },
		"the last region":     func(c *api.Config) { c.Partitions[1].Regions = append(c.Partitions[1].Regions, api.Region{}) },
		"nine ports": func(c *api.Config) {
			eightPorts(c)
			c.Partitions[1].Ports = append(c.Partitions[1].Ports, api.Port{Channel: 3})
		},
		"a port of channel 1":    func(c *api.Config) { c.Partitions[0].Ports = append(c.Partitions[0].Ports, api.Port{Channel: 1}) },
		"a port of channel -1":   func(c *api.Config) { c.Partitions[1].Ports[1].Channel = -1 },
		"a port of the greatest": func(c *api.Config) { c.Partitions[1].Ports[1].Channel = math.MaxInt },
		"no channels, but ports": func(c *api.Config) { c.Channels = nil },
		"Kind 0":                 func(c *api.Config) { c.Channels[0].Kind = 0 },
		"Kind 3":                 func(c *api.Config) { c.Channels[0].Kind = 3 },
		"Kind -1":                func(c *api.Config) { c.Channels[0].Kind = -1 },
		"Kind 3, Depth 1":        func(c *api.Config) { c.Channels[0] = api.Channel{Kind: 3, Words: 1, Depth: 1} },
		"Words 0":                func(c *api.Config) { c.Channels[0].Words = 0 },
		"Words -1":               func(c *api.Config) { c.Channels[0].Words = -1 },
		"Words 17":               func(c *api.Config) { c.Channels[0].Words = 17 },
		"Words the greatest":     func(c *api.Config) { c.Channels[0].Words = math.MaxInt },
		"sampling, Depth 1":      func(c *api.Config) { c.Channels[0].Depth = 1 },
		"sampling, Depth -1":     func(c *api.Config) { c.Channels[0].Depth = -1 },
		"queuing, Depth 0":       func(c *api.Config) { c.Channels[0].Kind = api.KindQueuing },
		"queuing, Depth 9":       func(c *api.Config) { c.Channels[0] = api.Channel{Kind: api.KindQueuing, Words: 3, Depth: 9} },
		"queuing, Depth -1":      func(c *api.Config) { c.Channels[0] = api.Channel{Kind: api.KindQueuing, Words: 3, Depth: -1} },
		"queuing, Words 0":       func(c *api.Config) { c.Channels[0] = api.Channel{Kind: api.KindQueuing, Words: 0, Depth: 1} },
		"queuing, Words 17":      func(c *api.Config) { c.Channels[0] = api.Channel{Kind: api.KindQueuing, Words: 17, Depth: 1} },
		"no source":              func(c *api.Config) { c.Partitions[0].Ports = nil },
		"a second source":        func(c *api.Config) { c.Partitions[1].Ports[0].Source = true },
		"one partition's two": func(c *api.Config) {
			c.Partitions[0].Ports = append(c.Partitions[0].Ports, api.Port{Source: true})
		},
		"no destination":       func(c *api.Config) { c.Partitions[1].Ports = nil },
		"five destinations":    func(c *api.Config) { c.Partitions[1].Ports = make([]api.Port, 5) },
		"five of three":        func(c *api.Config) { c.Partitions = append(c.Partitions, api.Partition{Ports: make([]api.Port, 3)}) },
		"a channel by itself":  func(c *api.Config) { c.Channels = append(c.Channels, c.Channels[0]) },
		"the last channel":     func(c *api.Config) { *c = many(16); c.Channels[15].Words = 0 },
		"seventeen channels":   func(c *api.Config) { *c = many(17) },
		"the last of eight":    func(c *api.Config) { *c = many(16); c.Partitions[7].Regions = []api.Region{{Page: 256, Pages: 1}} },
		"very many partitions": func(c *api.Config) { c.Partitions = make([]api.Partition, 100000) },
		"very many channels":   func(c *api.Config) { c.Channels = make([]api.Channel, 100000) },
	} {
		c := example()
		spoil(&c)
		wantRefused(t, name, c)
	}
}

// many is a configuration of eight partitions and so many channels, up to 32: of each the source and one destination.
func many(channels int) api.Config {
	c := api.Config{Frames: api.MaxFrames, Partitions: make([]api.Partition, 8)}
	for n := range channels {
		c.Channels = append(c.Channels, api.Channel{Kind: api.KindSampling, Words: 1})
		for i, p := range []int{n % 8, (n + 3) % 8} {
			c.Partitions[p].Ports = append(c.Partitions[p].Ports, api.Port{Channel: n, Source: i == 0})
		}
	}
	return c
}

// 'What can be laid out': the edges that may just be.
func TestEdgesThatMayBe(t *testing.T) {
	for name, change := range map[string]func(c *api.Config){
		"Kernel 0":            func(c *api.Config) { c.Kernel = 0 },
		"Kernel 1023":         func(c *api.Config) { c.Kernel = 1023 },
		"eight partitions":    func(c *api.Config) { c.Partitions = append(c.Partitions, make([]api.Partition, 6)...) },
		"no partition":        func(c *api.Config) { c.Partitions, c.Channels = nil, nil },
		"eight regions":       func(c *api.Config) { c.Partitions[1].Regions = slices.Repeat(c.Partitions[1].Regions, 8) },
		"no regions":          func(c *api.Config) { c.Partitions[1].Regions = nil },
		"Page 254 of two":     func(c *api.Config) { c.Partitions[1].Regions[0].Page = 254 },
		"Page 255 of one":     func(c *api.Config) { c.Partitions[1].Regions[0] = api.Region{Page: 255, Pages: 1} },
		"Pages 256":           func(c *api.Config) { c.Partitions[1].Regions[0] = api.Region{Page: 0, Pages: 256} },
		"Pages 255 from 1 on": func(c *api.Config) { c.Partitions[1].Regions[0] = api.Region{Page: 1, Pages: 255} },
		"Words 1":             func(c *api.Config) { c.Channels[0].Words = 1 },
		"Words 16":            func(c *api.Config) { c.Channels[0].Words = 16 },
		"queuing, Depth 1":    func(c *api.Config) { c.Channels[0] = api.Channel{Kind: api.KindQueuing, Words: 1, Depth: 1} },
		"queuing, Depth 8":    func(c *api.Config) { c.Channels[0] = api.Channel{Kind: api.KindQueuing, Words: 16, Depth: 8} },
		"one destination":     func(c *api.Config) { c.Partitions[1].Ports = make([]api.Port, 1) },
		"four destinations":   func(c *api.Config) { c.Partitions[1].Ports = make([]api.Port, 4) },
		"four of a queue":     func(c *api.Config) { *c = joined(api.Channel{Kind: api.KindQueuing, Words: 1, Depth: 1}, 4) },
		"one's both ends":     func(c *api.Config) { *c = joined(api.Channel{Kind: api.KindSampling, Words: 1}, 1) },
		"the source behind":   func(c *api.Config) { slices.Reverse(c.Partitions) },
		"sixteen channels":    func(c *api.Config) { *c = many(16) },
		"eight ports":         eightPorts,
		"regions on one frame": func(c *api.Config) {
			c.Partitions[1].Regions = append(c.Partitions[1].Regions, c.Partitions[1].Regions...)
		},
	} {
		c := example()
		change(&c)
		l, e := layout.Of(c)
		n, f := layout.Need(c)
		if e != api.OK || f != api.OK || n != l.End-c.Kernel || n < 1 || !same(l, modelOf(c).layout) {
			t.Errorf("%s: Of = %+v, %d; Need = %d, %d", name, l, e, n, f)
		}
	}
}

// eightPorts gives the second partition eight ports.
func eightPorts(c *api.Config) {
	for n := 1; n < 4; n++ {
		c.Channels = append(c.Channels, c.Channels[0])
		c.Partitions[0].Ports = append(c.Partitions[0].Ports, api.Port{Channel: n, Source: true})
		c.Partitions[1].Ports = append(c.Partitions[1].Ports, api.Port{Channel: n}, api.Port{Channel: n})
	}
}

// P15.7, 'What can be laid out': what is layer 16's business is not asked, and moves nothing.
func TestWhatItHangsOn(t *testing.T) {
	want, _ := layout.Of(example())
	for name, change := range map[string]func(c *api.Config, n int){
		"Frames":   func(c *api.Config, n int) { c.Frames = n },
		"Major":    func(c *api.Config, n int) { c.Major = n },
		"Room":     func(c *api.Config, n int) { c.Room = n },
		"cores":    func(c *api.Config, n int) { c.Cores = make([][]api.Window, n&63) },
		"windows":  func(c *api.Config, n int) { c.Cores = [][]api.Window{{{Partition: n, Usable: n, Slack: n}}, nil} },
		"Name":     func(c *api.Config, n int) { c.Partitions[0].Name = "no name\x00"; c.Partitions[1].Name = "no name\x00" },
		"Entry":    func(c *api.Config, n int) { c.Partitions[1].Entry = n },
		"Action":   func(c *api.Config, n int) { c.Partitions[1].Action = n },
		"Restarts": func(c *api.Config, n int) { c.Partitions[1].Restarts = n },
		"Inputs":   func(c *api.Config, n int) { c.Partitions[1].Inputs = n },
		"Outputs":  func(c *api.Config, n int) { c.Partitions[1].Outputs = n },
		"Frame":    func(c *api.Config, n int) { c.Partitions[1].Regions[0].Frame = n },
		"Rights":   func(c *api.Config, n int) { c.Partitions[1].Regions[0].Rights = n },
		"one region as two": func(c *api.Config, n int) {
			c.Partitions[1].Regions = []api.Region{{Page: 16, Pages: 1, Frame: n}, {Page: 15, Pages: 1, Frame: n}}
		},
	} {
		for _, n := range []int{0, 1, -1, 7, 1023, 1024, 1025, math.MaxInt, math.MinInt} {
			c := example()
			change(&c, n)
			wantOf(t, name, c, want)
		}
	}
}

// P15.3: every kind, all words and depths about the edges, and far off.
func TestSizes(t *testing.T) {
	numbers := []int{-1, 0, 1, 2, 3, 4, 5, 6, 7, 8, 9, 10, 11, 12, 13, 14, 15, 16, 17, 77, math.MaxInt, math.MinInt, 1 << 62}
	for _, kind := range numbers {
		for _, words := range numbers {
			for _, depth := range numbers {
				h := api.Channel{Kind: kind, Words: words, Depth: depth}
				stage, port := 0, 0
				if words >= 1 && words <= 16 {
					if kind == 1 {
						stage, port = 2+words, 3+words
					} else if kind == 2 && depth >= 1 && depth <= 8 {
						stage, port = 1+depth*(1+words), 3+depth*(1+words)
					}
				}
				if s, p := layout.Stage(h), layout.Port(h); s != stage || p != port {
					t.Errorf("%v: Stage %d, Port %d, want %d, %d", h, s, p, stage, port)
				}
			}
		}
	}
}

// P15.3, the examples.
func TestSizesExamples(t *testing.T) {
	for _, x := range []struct {
		name      string
		got, want int
	}{
		{"Stage of a queue", layout.Stage(api.Channel{Kind: api.KindQueuing, Words: 2, Depth: 3}), 10},
		{"Port of a queue", layout.Port(api.Channel{Kind: api.KindQueuing, Words: 2, Depth: 3}), 12},
		{"Port of a sampling one", layout.Port(api.Channel{Kind: api.KindSampling, Words: 2, Depth: 77}), 5},
		{"Stage of Depth 9", layout.Stage(api.Channel{Kind: api.KindQueuing, Words: 2, Depth: 9}), 0},
		{"Stage of Kind 3", layout.Stage(api.Channel{Kind: 3, Words: 1, Depth: 1}), 0},
		{"the greatest stage", layout.Stage(api.Channel{Kind: api.KindQueuing, Words: 16, Depth: 8}), 137},
		{"the greatest port", layout.Port(api.Channel{Kind: api.KindQueuing, Words: 16, Depth: 8}), 139},
	} {
		if x.got != x.want {
			t.Errorf("%s: %d, want %d", x.name, x.got, x.want)
		}
	}
}

// P15.4, the examples.
func TestOwnerExamples(t *testing.T) {
	c := example()
	for at, want := range map[int]api.Owner{
		31:  {Kind: api.OwnRegion, Index: 0},
		32:  {Kind: api.OwnBarrier},
		33:  {Kind: api.OwnBarrier},
		34:  {Kind: api.OwnLock, Index: 0},
		58:  {Kind: api.OwnLock, Index: 1},
		59:  {Kind: api.OwnLock, Index: 1},
		60:  {Kind: api.OwnSave, Index: 1},
		76:  {Kind: api.OwnSave, Index: 1},
		77:  {Kind: api.OwnState, Index: 1},
		81:  {Kind: api.OwnState, Index: 1},
		82:  {Kind: api.OwnChannel, Index: 0},
		83:  {Kind: api.OwnChannel, Index: 0},
		84:  {Kind: api.OwnStage, Index: 0},
		88:  {Kind: api.OwnStage, Index: 0},
		89:  {Kind: api.OwnPort, Index: 1, Port: 0},
		94:  {Kind: api.OwnPort, Index: 1, Port: 0},
		95:  {Kind: api.OwnPort, Index: 1, Port: 1},
		100: {Kind: api.OwnPort, Index: 1, Port: 1},
		101: {Kind: api.OwnNobody},
		111: {Kind: api.OwnNobody},
		112: {Kind: api.OwnTable, Index: 0},
		143: {Kind: api.OwnTable, Index: 0},
	} {
		wantOwner(t, c, at, want, api.OK)
	}
	for _, at := range []int{144, -1, math.MinInt, math.MaxInt} {
		wantOwner(t, c, at, api.Owner{}, 151)
	}
	c.Frames = 12
	for at, want := range map[int]int{144: 1, 191: 1} {
		wantOwner(t, c, at, api.Owner{Kind: api.OwnTable, Index: want}, api.OK)
	}
	wantOwner(t, c, 192, api.Owner{}, api.ErrLayoutAt)
}

// P15.4: which words are of the memory, whatever Frames is.
func TestOwnerOfNoWord(t *testing.T) {
	for _, frames := range []int{0, -1, math.MinInt, math.MinInt/16 + 1} {
		c := example()
		c.Frames = frames
		for _, at := range []int{0, 32, -1, 1, math.MaxInt, math.MinInt} {
			wantOwner(t, c, at, api.Owner{}, api.ErrLayoutAt)
		}
	}
	for _, frames := range []int{1, 2, 1023, 1024, 1025, 1 << 59, 1 << 60, 1<<60 + 1, math.MaxInt} {
		c := api.Config{Frames: frames, Kernel: 1023}
		end := 16 * min(frames, 1024)
		for _, at := range []int{0, end - 1} {
			if _, e := layout.Owner(c, at); e != api.OK {
				t.Errorf("Frames %d: Owner(%d): %d", frames, at, e)
			}
		}
		for _, at := range []int{-1, -15, -16, -17, end, end + 1, 16384, 1 << 40, math.MaxInt, math.MinInt} {
			wantOwner(t, c, at, api.Owner{}, api.ErrLayoutAt)
		}
	}
}

// P15.4: the frames of regions, from the first word to the last, and regions that have none.
func TestOwnerRegions(t *testing.T) {
	for _, x := range []struct {
		frame, pages int
		from, to     int // the frames below 1024 that it has; the kernel's are 500 to 504
	}{
		{0, 1, 0, 1},
		{0, 256, 0, 256},
		{7, 3, 7, 10},
		{1023, 1, 1023, 1024},
		{1023, 256, 1023, 1024},
		{1000, 256, 1000, 1024},
		{1024, 1, 0, 0},
		{1024, 256, 0, 0},
		{1025, 256, 0, 0},
		{-1, 3, 0, 0},
		{-1, 256, 0, 0},
		{math.MaxInt, 256, 0, 0},
		{math.MinInt, 256, 0, 0},
	} {
		c := alone(500, api.Region{Page: 0, Pages: x.pages, Frame: x.frame})
		for at := range 16 * 1024 {
			if at >= 500*16 && at < 530*16 {
				continue
			}
			want := api.Owner{}
			if at >= 16*x.from && at < 16*x.to {
				want.Kind = api.OwnRegion
			}
			if got, e := layout.Owner(c, at); got != want || e != api.OK {
				t.Fatalf("Frame %d, Pages %d: Owner(%d) = %v, %d, want %v", x.frame, x.pages, at, got, e, want)
			}
		}
	}
}

// P15.4: the kernel's words come first, then the first partition with such a region, then nobody.
func TestOwnerOrder(t *testing.T) {
	c := example()
	c.Frames = 20
	c.Room = 18
	c.Partitions[0].Regions = []api.Region{{Page: 0, Pages: 1, Frame: 13}, {Page: 1, Pages: 2, Frame: 15}}
	c.Partitions[1].Regions = []api.Region{{Page: 15, Pages: 2, Frame: 14}, {Page: 16, Pages: 14, Frame: 0}}
	for at := range 20 * 16 {
		want := modelOf(c).owner(at)
		wantOwner(t, c, at, want, api.OK)
	}
	for frame, want := range map[int]api.Owner{
		0:  {Kind: api.OwnRegion, Index: 1},
		12: {Kind: api.OwnRegion, Index: 1},
		13: {Kind: api.OwnRegion, Index: 0},
		14: {Kind: api.OwnRegion, Index: 1},
		15: {Kind: api.OwnRegion, Index: 0},
		16: {Kind: api.OwnRegion, Index: 0},
		17: {},
		19: {}, // of Room, and not needed
	} {
		wantOwner(t, c, 16*frame, want, api.OK)
		wantOwner(t, c, 16*frame+15, want, api.OK)
	}
	wantOwner(t, c, 101, api.Owner{Kind: api.OwnRegion, Index: 1}, api.OK) // between the last port and the first root
	wantOwner(t, c, 100, api.Owner{Kind: api.OwnPort, Index: 1, Port: 1}, api.OK)
	wantOwner(t, c, 112, api.Owner{Kind: api.OwnTable}, api.OK)
}

// P15.1, P15.4: an area that goes on behind the memory, and behind the greatest one, is laid out all the same.
func TestAreaBehindTheMemory(t *testing.T) {
	c := example()
	c.Kernel = 1023
	c.Frames = 1024
	l, e := layout.Of(c)
	if e != api.OK || l.Barrier != 16368 || l.End != 1033 || l.Channels[0].Dests[1].At != 16368+63 {
		t.Errorf("Of = %+v, %d", l, e)
	}
	wantOwner(t, c, 16383, api.Owner{Kind: api.OwnSave, Index: 0}, api.OK)
	wantOwner(t, c, 16384, api.Owner{}, api.ErrLayoutAt)
	c.Frames = 1023
	wantOwner(t, c, 16367, api.Owner{}, api.OK)
	wantOwner(t, c, 16368, api.Owner{}, api.ErrLayoutAt)
}

// R3: nil and empty lists are the same.
func TestNilAndEmpty(t *testing.T) {
	for _, c := range []api.Config{
		{Kernel: 4, Partitions: []api.Partition{{}}},
		{Kernel: 4, Cores: [][]api.Window{}, Partitions: []api.Partition{{Regions: []api.Region{}, Ports: []api.Port{}}}, Channels: []api.Channel{}},
	} {
		wantOf(t, "nil and empty", c, api.Layout{Barrier: 64, Partitions: []api.PartitionPlace{{Lock: 66, Save: 68, State: 85, Root: 6}}, End: 7})
	}
	wantOf(t, "an empty list", api.Config{Partitions: []api.Partition{}, Channels: []api.Channel{}}, api.Layout{End: 1})
}

// R5: what is handed in stays as it is, with the room behind its ends.
func TestArgumentStays(t *testing.T) {
	roomy := func() api.Config {
		c := many(16)
		c.Partitions = append(make([]api.Partition, 0, 12), c.Partitions...)
		c.Channels = append(make([]api.Channel, 0, 20), c.Channels...)
		for i := range c.Partitions {
			p := &c.Partitions[i]
			p.Ports = append(make([]api.Port, 0, 12), p.Ports...)
			p.Regions = append(make([]api.Region, 0, 12), api.Region{Page: 15, Pages: 2, Frame: 3})
		}
		return c
	}
	whole := func(c api.Config) api.Config {
		c.Partitions = slices.Clone(c.Partitions[:cap(c.Partitions)])
		c.Channels = c.Channels[:cap(c.Channels)]
		for i, p := range c.Partitions {
			c.Partitions[i].Ports, c.Partitions[i].Regions = p.Ports[:cap(p.Ports)], p.Regions[:cap(p.Regions)]
		}
		return c
	}
	c := roomy()
	if l, e := layout.Of(c); e != api.OK {
		t.Fatalf("Of = %v, %d", l, e)
	}
	layout.Need(c)
	layout.Owner(c, 100)
	if !reflect.DeepEqual(whole(c), whole(roomy())) {
		t.Error("the configuration was changed")
	}
}

// R5: no two lists of an answer share memory, spare room too, nor two answers.
func TestAnswersAreNew(t *testing.T) {
	c := many(16)
	for i := range c.Partitions {
		c.Partitions[i].Regions = []api.Region{{Page: 16 * i, Pages: 20}}
	}
	first, _ := layout.Of(c)
	second, _ := layout.Of(c)
	for i, p := range first.Partitions {
		p.Tables = p.Tables[:cap(p.Tables)]
		for j := range p.Tables {
			p.Tables[j] = -i
		}
	}
	for i, h := range first.Channels {
		h.Dests = h.Dests[:cap(h.Dests)]
		for j := range h.Dests {
			h.Dests[j].At = -i
		}
	}
	for i, p := range first.Partitions {
		if slices.ContainsFunc(p.Tables, func(f int) bool { return f != -i }) {
			t.Errorf("the tables of %d share memory", i)
		}
	}
	for i, h := range first.Channels {
		if slices.ContainsFunc(h.Dests, func(d api.DestPlace) bool { return d.At != -i }) {
			t.Errorf("the destinations of %d share memory", i)
		}
	}
	clear(first.Partitions)
	clear(first.Channels)
	if !same(second, modelOf(c).layout) {
		t.Error("two answers share memory")
	}
	wantOf(t, "again", c, second)
}
