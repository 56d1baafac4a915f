package admit_test

import (
	"math"
	"reflect"
	"slices"
	"strconv"
	"strings"
	"testing"

	"bulkhead/admit"
	"bulkhead/api"
	"bulkhead/conf"
	"bulkhead/text"
)

// exampleText is the text of chapter 12's example.
const exampleText = `memory 64
major 800
kernel 40 8
channel sampling 2
partition radio entry 0 action cold restarts 3 inputs 0 outputs 1
  region 0 2 10 rwx
  port 0 source
partition lamp entry 16 action halt restarts 0 inputs 2 outputs 0
  region 1 1 20 rx
  port 0 dest
core
  window 0 300 100
  window 1 300 100
core
  window none 700 100
end
`

func example() api.Config {
	c, _, e := text.Parse(exampleText)
	if e != api.OK {
		panic(e)
	}
	return c
}

// full is a configuration in which all is as great as it may be, but for the queues.
func full() api.Config {
	c := api.Config{Frames: 1024, Major: 16384, Kernel: 512, Room: 512}
	c.Cores = make([][]api.Window, 4)
	for k := range c.Cores {
		for w := range 16 {
			c.Cores[k] = append(c.Cores[k], api.Window{Partition: 2*k + w%2, Usable: 942, Slack: 82})
		}
	}
	for p := range 8 {
		x := api.Partition{Name: "abcdefghijklmn-" + strconv.Itoa(p), Entry: 4095, Action: 2, Restarts: 15, Inputs: 16, Outputs: 16}
		for i := range 8 {
			x.Regions = append(x.Regions, api.Region{Page: 32*i + 30, Pages: 2, Frame: 16*p + 2*i, Rights: 7})
			x.Ports = append(x.Ports, api.Port{Channel: 2*p + i/4, Source: i%4 == 0})
		}
		c.Partitions = append(c.Partitions, x)
	}
	for range 16 {
		c.Channels = append(c.Channels, api.Channel{Kind: api.KindSampling, Words: 16})
	}
	return c
}

// least is a configuration in which all is as small as it may be.
func least() api.Config {
	return api.Config{
		Frames: 6, Major: 83, Kernel: 0, Room: 4,
		Cores:      [][]api.Window{{{Partition: -1, Usable: 1, Slack: 82}}},
		Partitions: []api.Partition{{Name: "a", Regions: []api.Region{{Pages: 1, Frame: 4, Rights: 4}}}},
	}
}

// whole is where a fault of the whole is.
var whole = api.Where{First: -1, Second: -1}

// at is where a fault of a partition, a channel or a core is.
func at(first int) api.Where { return api.Where{First: first, Second: -1} }

// inside is where a fault of one of its regions, ports or windows is.
func inside(first, second int) api.Where { return api.Where{First: first, Second: second} }

// copyOf is a configuration that shares nothing with another, each list with spare room that is not zero.
func copyOf(c api.Config) api.Config {
	c.Cores = slices.Clone(c.Cores)
	for i := range c.Cores {
		c.Cores[i] = roomy(c.Cores[i], api.Window{Partition: 7, Usable: 7, Slack: 7})
	}
	c.Partitions = slices.Clone(c.Partitions)
	for i := range c.Partitions {
		p := &c.Partitions[i]
		p.Regions = roomy(p.Regions, api.Region{Page: 7, Pages: 7, Frame: 7, Rights: 7})
		p.Ports = roomy(p.Ports, api.Port{Channel: 7, Source: true})
	}
	c.Channels = roomy(c.Channels, api.Channel{Kind: 7, Words: 7, Depth: 7})
	c.Cores = roomy(c.Cores, []api.Window{{Partition: 7}})
	c.Partitions = roomy(c.Partitions, api.Partition{Name: "behind"})
	return c
}

func roomy[T any](list []T, behind T) []T {
	room := append(slices.Clone(list), behind, behind)
	return room[:len(list)]
}

// behind reads a configuration's lists with the room behind their ends.
func behind(c api.Config) api.Config {
	c.Cores = c.Cores[:cap(c.Cores)]
	c.Partitions = c.Partitions[:cap(c.Partitions)]
	c.Channels = c.Channels[:cap(c.Channels)]
	c.Cores = slices.Clone(c.Cores)
	for i := range c.Cores {
		c.Cores[i] = c.Cores[i][:cap(c.Cores[i])]
	}
	c.Partitions = slices.Clone(c.Partitions)
	for i := range c.Partitions {
		p := &c.Partitions[i]
		p.Regions, p.Ports = p.Regions[:cap(p.Regions)], p.Ports[:cap(p.Ports)]
	}
	return c
}

// wantCheck also holds Admit of the configuration's bytes against Check, where it has such.
func wantCheck(t *testing.T, name string, c api.Config, e api.Errno, where api.Where) {
	t.Helper()
	if gotE, gotWhere := admit.Check(c); gotE != e || gotWhere != where {
		t.Errorf("%s: Check = %d, %v, want %d, %v", name, gotE, gotWhere, e, where)
	}
	b, wide := conf.Encode(c)
	if wide != api.OK {
		return
	}
	got, gotE, gotWhere := admit.Admit(b)
	if gotE != e || gotWhere != where {
		t.Errorf("%s: Admit = %d, %v, want %d, %v", name, gotE, gotWhere, e, where)
	}
	want := api.Config{}
	if e == api.OK {
		want = c
	}
	if !same(got, want) {
		t.Errorf("%s: Admit = %+v, want %+v", name, got, want)
	}
}

// same tells whether two configurations are the same; nil and empty lists are.
func same(a, b api.Config) bool { return reflect.DeepEqual(plain(a), plain(b)) }

func plain(c api.Config) api.Config {
	c.Cores = append([][]api.Window{}, c.Cores...)
	for i := range c.Cores {
		c.Cores[i] = append([]api.Window{}, c.Cores[i]...)
	}
	c.Partitions = append([]api.Partition{}, c.Partitions...)
	for i := range c.Partitions {
		p := &c.Partitions[i]
		p.Regions, p.Ports = append([]api.Region{}, p.Regions...), append([]api.Port{}, p.Ports...)
	}
	c.Channels = append([]api.Channel{}, c.Channels...)
	return c
}

// change is a configuration turned into another one, and what is to be said of that.
type change struct {
	name  string
	turn  func(c *api.Config)
	e     api.Errno
	where api.Where
}

// wantChanges makes each change by itself.
func wantChanges(t *testing.T, from func() api.Config, changes []change) {
	t.Helper()
	for _, x := range changes {
		c := from()
		x.turn(&c)
		wantCheck(t, x.name, c, x.e, x.where)
	}
}

// The row 'Errors'.
func TestNumbersOfErrors(t *testing.T) {
	for i, e := range []api.Errno{
		api.ErrAdmitFrames, api.ErrAdmitMajor, api.ErrAdmitCores, api.ErrAdmitPartitions, api.ErrAdmitChannels,
		api.ErrAdmitName, api.ErrAdmitAction, api.ErrAdmitDevice, api.ErrAdmitRegions, api.ErrAdmitRegion,
		api.ErrAdmitPages, api.ErrAdmitShared, api.ErrAdmitEntry, api.ErrAdmitPorts, api.ErrAdmitPort,
		api.ErrAdmitChannel, api.ErrAdmitSource, api.ErrAdmitDests, api.ErrAdmitWindows, api.ErrAdmitWindow,
		api.ErrAdmitSlack, api.ErrAdmitTiles, api.ErrAdmitSplit, api.ErrAdmitKernel, api.ErrAdmitBytes,
	} {
		if int(e) != 400+i {
			t.Errorf("%d, want %d", e, 400+i)
		}
	}
}

// P16.1, the examples.
func TestExamples(t *testing.T) {
	wantChanges(t, example, []change{
		{"as it is", func(c *api.Config) {}, api.OK, api.Where{}},
		{"Frames 0", func(c *api.Config) { c.Frames = 0 }, api.ErrAdmitFrames, whole},
		{"Frames 1025", func(c *api.Config) { c.Frames = 1025 }, api.ErrAdmitFrames, whole},
		{"Major 801", func(c *api.Config) { c.Major = 801 }, api.ErrAdmitTiles, at(0)},
		{"partition 1 called radio", func(c *api.Config) { c.Partitions[1].Name = "radio" }, api.ErrAdmitName, at(1)},
		{"partition 1's region from frame 11 on", func(c *api.Config) { c.Partitions[1].Regions[0].Frame = 11 }, api.ErrAdmitShared, inside(1, 0)},
		{"partition 0's Entry 32", func(c *api.Config) { c.Partitions[0].Entry = 32 }, api.ErrAdmitEntry, at(0)},
		{"partition 1's region with rights 1", func(c *api.Config) { c.Partitions[1].Regions[0].Rights = 1 }, api.ErrAdmitEntry, at(1)},
		{"partition 1's port a source, too", func(c *api.Config) { c.Partitions[1].Ports[0].Source = true }, api.ErrAdmitSource, at(0)},
		{"no port in partition 1", func(c *api.Config) { c.Partitions[1].Ports = nil }, api.ErrAdmitDests, at(0)},
		{"core 0's second window with Usable 319, Slack 81", func(c *api.Config) { c.Cores[0][1] = api.Window{Partition: 1, Usable: 319, Slack: 81} }, api.ErrAdmitSlack, inside(0, 1)},
		{"core 1's window of partition 1", func(c *api.Config) { c.Cores[1][0].Partition = 1 }, api.ErrAdmitSplit, inside(1, 0)},
		{"Kernel 20", func(c *api.Config) { c.Kernel = 20 }, api.ErrAdmitKernel, whole},
		{"Room 7", func(c *api.Config) { c.Room = 7 }, api.ErrAdmitKernel, whole},
	})
}

// P16.1: the greatest and the least that hold together.
func TestEnds(t *testing.T) {
	wantCheck(t, "the greatest", full(), api.OK, api.Where{})
	wantCheck(t, "the least", least(), api.OK, api.Where{})
	wantCheck(t, "nothing", api.Config{}, api.ErrAdmitFrames, whole)
}

// P16.1, 1 to 5: of the whole.
func TestWhole(t *testing.T) {
	wantChanges(t, full, []change{
		{"Frames -1", func(c *api.Config) { c.Frames = -1 }, api.ErrAdmitFrames, whole},
		{"Frames 1025", func(c *api.Config) { c.Frames = 1025 }, api.ErrAdmitFrames, whole},
		{"Frames the greatest", func(c *api.Config) { c.Frames = math.MaxInt }, api.ErrAdmitFrames, whole},
		{"Frames the least", func(c *api.Config) { c.Frames = math.MinInt }, api.ErrAdmitFrames, whole},
		{"Frames 1", func(c *api.Config) { c.Frames = 1 }, api.ErrAdmitRegion, inside(0, 0)},
		{"Major 0", func(c *api.Config) { c.Major = 0 }, api.ErrAdmitMajor, whole},
		{"Major -1", func(c *api.Config) { c.Major = -1 }, api.ErrAdmitMajor, whole},
		{"Major 16385", func(c *api.Config) { c.Major = 16385 }, api.ErrAdmitMajor, whole},
		{"Major the greatest", func(c *api.Config) { c.Major = math.MaxInt }, api.ErrAdmitMajor, whole},
		{"Major 1", func(c *api.Config) { c.Major = 1 }, api.ErrAdmitTiles, at(0)},
		{"no cores", func(c *api.Config) { c.Cores = nil }, api.ErrAdmitCores, whole},
		{"no cores, empty", func(c *api.Config) { c.Cores = [][]api.Window{} }, api.ErrAdmitCores, whole},
		{"five cores", func(c *api.Config) { c.Cores = append(c.Cores, nil) }, api.ErrAdmitCores, whole},
		{"one core", func(c *api.Config) { c.Cores = c.Cores[:1] }, api.OK, api.Where{}},
		{"no partitions", func(c *api.Config) { c.Partitions = nil }, api.ErrAdmitPartitions, whole},
		{"no partitions, empty", func(c *api.Config) { c.Partitions = []api.Partition{} }, api.ErrAdmitPartitions, whole},
		{"nine partitions", func(c *api.Config) { c.Partitions = append(c.Partitions, api.Partition{}) }, api.ErrAdmitPartitions, whole},
		{"17 channels", func(c *api.Config) { c.Channels = append(c.Channels, api.Channel{}) }, api.ErrAdmitChannels, whole},
		{"15 channels", func(c *api.Config) { c.Channels = c.Channels[:15] }, api.ErrAdmitPort, inside(7, 4)},
	})
}

// P16.1, 6: names, and names that stand twice.
func TestNames(t *testing.T) {
	for _, name := range []string{"a", "z", "a0", "z9", "a-", "a--", "az09-", "abcdefghijklmnop", "a" + strings.Repeat("-", 15)} {
		c := example()
		c.Partitions[1].Name = name
		wantCheck(t, name, c, api.OK, api.Where{})
	}
	bad := []string{"", "-", "-a", "0", "9a", "A", "aB", "a b", " a", "a ", "a_", "a.", "a/", "a:", "a`", "a{", "`", "{", "a,", "é", "aé", "a\x00", "\x00", "a\n", "a\xff",
		"abcdefghijklmnopq", strings.Repeat("a", 255), strings.Repeat("a", 256), "a" + strings.Repeat("-", 16)}
	for _, name := range bad {
		c := example()
		c.Partitions[0].Name = name
		wantCheck(t, strconv.Quote(name), c, api.ErrAdmitName, at(0))
	}
	for b := range 256 {
		c := example()
		c.Partitions[1].Name = "a" + string([]byte{byte(b)})
		e, where := api.ErrAdmitName, at(1)
		if strings.IndexByte("abcdefghijklmnopqrstuvwxyz0123456789-", byte(b)) >= 0 {
			e, where = api.OK, api.Where{}
		}
		wantCheck(t, "a and byte "+strconv.Itoa(b), c, e, where)
		c.Partitions[1].Name = string([]byte{byte(b), 'a'})
		e, where = api.ErrAdmitName, at(1)
		if b >= 'a' && b <= 'z' {
			e, where = api.OK, api.Where{}
		}
		wantCheck(t, "byte "+strconv.Itoa(b)+" and a", c, e, where)
	}
}

// P16.1, 6: of any two with one name the latter is told; names that begin alike are two.
func TestNamesTwice(t *testing.T) {
	for p := range 8 {
		for q := range p {
			c := full()
			c.Partitions[p].Name = c.Partitions[q].Name
			wantCheck(t, "twice", c, api.ErrAdmitName, at(p))
			c.Partitions[p].Name = "abcdefghijklmn-"
			wantCheck(t, "shorter", c, api.OK, api.Where{})
		}
	}
}

// P16.1, 7 to 9: the numbers of a partition.
func TestPartitions(t *testing.T) {
	for p := range 8 {
		of := func(turn func(x *api.Partition)) func(c *api.Config) {
			return func(c *api.Config) { turn(&c.Partitions[p]) }
		}
		wantChanges(t, full, []change{
			{"Action -1", of(func(x *api.Partition) { x.Action = -1 }), api.ErrAdmitAction, at(p)},
			{"Action 0", of(func(x *api.Partition) { x.Action = 0 }), api.OK, api.Where{}},
			{"Action 1", of(func(x *api.Partition) { x.Action = 1 }), api.OK, api.Where{}},
			{"Action 3", of(func(x *api.Partition) { x.Action = 3 }), api.ErrAdmitAction, at(p)},
			{"Action the greatest", of(func(x *api.Partition) { x.Action = math.MaxInt }), api.ErrAdmitAction, at(p)},
			{"Restarts -1", of(func(x *api.Partition) { x.Restarts = -1 }), api.ErrAdmitAction, at(p)},
			{"Restarts 0", of(func(x *api.Partition) { x.Restarts = 0 }), api.OK, api.Where{}},
			{"Restarts 16", of(func(x *api.Partition) { x.Restarts = 16 }), api.ErrAdmitAction, at(p)},
			{"Restarts 15 of one that is halted", of(func(x *api.Partition) { x.Action = 0 }), api.OK, api.Where{}},
			{"Inputs -1", of(func(x *api.Partition) { x.Inputs = -1 }), api.ErrAdmitDevice, at(p)},
			{"Inputs 0", of(func(x *api.Partition) { x.Inputs = 0 }), api.OK, api.Where{}},
			{"Inputs 17", of(func(x *api.Partition) { x.Inputs = 17 }), api.ErrAdmitDevice, at(p)},
			{"Outputs -1", of(func(x *api.Partition) { x.Outputs = -1 }), api.ErrAdmitDevice, at(p)},
			{"Outputs 0", of(func(x *api.Partition) { x.Outputs = 0 }), api.OK, api.Where{}},
			{"Outputs 17", of(func(x *api.Partition) { x.Outputs = 17 }), api.ErrAdmitDevice, at(p)},
			{"Outputs the least", of(func(x *api.Partition) { x.Outputs = math.MinInt }), api.ErrAdmitDevice, at(p)},
			{"no regions", of(func(x *api.Partition) { x.Regions = nil }), api.ErrAdmitRegions, at(p)},
			{"no regions, empty", of(func(x *api.Partition) { x.Regions = []api.Region{} }), api.ErrAdmitRegions, at(p)},
			{"one region", of(func(x *api.Partition) { x.Regions = x.Regions[7:] }), api.OK, api.Where{}},
			{"nine regions", of(func(x *api.Partition) { x.Regions = append(x.Regions, api.Region{Pages: 1, Frame: 200, Rights: 7}) }), api.ErrAdmitRegions, at(p)},
		})
	}
}

// P16.1, 10: a region that may not be, each of its numbers by itself.
func TestRegion(t *testing.T) {
	for _, x := range []struct {
		name string
		r    api.Region
		ok   bool
	}{
		{"the first page", api.Region{Page: 0, Pages: 1, Frame: 200, Rights: 1}, true},
		{"the last page", api.Region{Page: 255, Pages: 1, Frame: 200, Rights: 2}, true},
		{"all pages", api.Region{Page: 0, Pages: 256, Frame: 200, Rights: 3}, true},
		{"all pages but one", api.Region{Page: 1, Pages: 255, Frame: 200, Rights: 3}, true},
		{"the first frame", api.Region{Page: 0, Pages: 1, Frame: 0, Rights: 4}, true},
		{"the last frame", api.Region{Page: 0, Pages: 1, Frame: 1023, Rights: 7}, true},
		{"the last 256 frames", api.Region{Page: 0, Pages: 256, Frame: 768, Rights: 7}, true},
		{"Page -1", api.Region{Page: -1, Pages: 1, Frame: 200, Rights: 7}, false},
		{"Page the least", api.Region{Page: math.MinInt, Pages: 1, Frame: 200, Rights: 7}, false},
		{"Page the least, Pages the greatest", api.Region{Page: math.MinInt, Pages: math.MaxInt, Frame: 200, Rights: 7}, false},
		{"Page 256", api.Region{Page: 256, Pages: 1, Frame: 200, Rights: 7}, false},
		{"Page 256, Pages 0", api.Region{Page: 256, Pages: 0, Frame: 200, Rights: 7}, false},
		{"Page the greatest", api.Region{Page: math.MaxInt, Pages: 1, Frame: 200, Rights: 7}, false},
		{"Page and Pages the greatest", api.Region{Page: math.MaxInt, Pages: math.MaxInt, Frame: 200, Rights: 7}, false},
		{"Pages 0", api.Region{Page: 0, Pages: 0, Frame: 200, Rights: 7}, false},
		{"Pages -1", api.Region{Page: 3, Pages: -1, Frame: 200, Rights: 7}, false},
		{"Pages the least", api.Region{Page: 3, Pages: math.MinInt, Frame: 200, Rights: 7}, false},
		{"Pages 257", api.Region{Page: 0, Pages: 257, Frame: 200, Rights: 7}, false},
		{"two pages from the last one on", api.Region{Page: 255, Pages: 2, Frame: 200, Rights: 7}, false},
		{"Pages the greatest", api.Region{Page: 1, Pages: math.MaxInt, Frame: 200, Rights: 7}, false},
		{"Frame -1", api.Region{Page: 0, Pages: 1, Frame: -1, Rights: 7}, false},
		{"Frame -1 of two", api.Region{Page: 0, Pages: 2, Frame: -1, Rights: 7}, false},
		{"Frame the least", api.Region{Page: 0, Pages: 1, Frame: math.MinInt, Rights: 7}, false},
		{"Frame 1024", api.Region{Page: 0, Pages: 1, Frame: 1024, Rights: 7}, false},
		{"Frame 1023 of two", api.Region{Page: 0, Pages: 2, Frame: 1023, Rights: 7}, false},
		{"Frame 769 of 256", api.Region{Page: 0, Pages: 256, Frame: 769, Rights: 7}, false},
		{"Frame the greatest", api.Region{Page: 0, Pages: 256, Frame: math.MaxInt, Rights: 7}, false},
		{"Rights 0", api.Region{Page: 0, Pages: 1, Frame: 200, Rights: 0}, false},
		{"Rights 8", api.Region{Page: 0, Pages: 1, Frame: 200, Rights: 8}, false},
		{"Rights 12", api.Region{Page: 0, Pages: 1, Frame: 200, Rights: 12}, false},
		{"Rights -1", api.Region{Page: 0, Pages: 1, Frame: 200, Rights: -1}, false},
		{"Rights the least", api.Region{Page: 0, Pages: 1, Frame: 200, Rights: math.MinInt}, false},
	} {
		c := least()
		c.Frames, c.Kernel, c.Room = 1024, 500, 100
		c.Partitions[0].Regions[0] = x.r
		c.Partitions[0].Entry = 16 * x.r.Page
		switch {
		case !x.ok:
			wantCheck(t, x.name, c, api.ErrAdmitRegion, inside(0, 0))
		case x.r.Rights&4 == 0:
			wantCheck(t, x.name, c, api.ErrAdmitEntry, at(0))
		default:
			wantCheck(t, x.name, c, api.OK, api.Where{})
		}
		f := full()
		f.Partitions[5].Regions[3] = x.r
		if !x.ok {
			wantCheck(t, x.name+", among others", f, api.ErrAdmitRegion, inside(5, 3))
		}
	}
}

// P16.1, 10: a region is held against the frames that there are, not against the most that there may be.
func TestRegionEndsWithTheMemory(t *testing.T) {
	wantChanges(t, example, []change{
		{"the last frame", func(c *api.Config) { c.Partitions[1].Regions[0].Frame = 63 }, api.OK, api.Where{}},
		{"behind it", func(c *api.Config) { c.Partitions[1].Regions[0].Frame = 64 }, api.ErrAdmitRegion, inside(1, 0)},
		{"the last two", func(c *api.Config) { c.Partitions[0].Regions[0].Frame = 62 }, api.OK, api.Where{}},
		{"one of two behind it", func(c *api.Config) { c.Partitions[0].Regions[0].Frame = 63 }, api.ErrAdmitRegion, inside(0, 0)},
	})
}

// P16.1, 10: pages that two regions of one partition have.
func TestPages(t *testing.T) {
	for _, x := range []struct {
		name         string
		page1, size1 int
		page2, size2 int
		apart        bool
	}{
		{"the same", 3, 2, 3, 2, false},
		{"the last page of the first one", 3, 2, 4, 2, false},
		{"the first page of the first one", 3, 2, 2, 2, false},
		{"within", 3, 5, 4, 1, false},
		{"around", 4, 1, 3, 5, false},
		{"right behind", 3, 2, 5, 2, true},
		{"right ahead", 3, 2, 1, 2, true},
		{"far apart", 0, 1, 255, 1, true},
		{"all, and the last one", 0, 256, 255, 1, false},
		{"all but the last one", 0, 255, 255, 1, true},
	} {
		c := least()
		c.Frames, c.Room = 1024, 300
		c.Partitions[0].Regions = []api.Region{
			{Page: x.page1, Pages: x.size1, Frame: 300, Rights: 7},
			{Page: x.page2, Pages: x.size2, Frame: 700, Rights: 1},
		}
		c.Partitions[0].Entry = 16 * x.page1
		if x.apart {
			wantCheck(t, x.name, c, api.OK, api.Where{})
		} else {
			wantCheck(t, x.name, c, api.ErrAdmitPages, inside(0, 1))
		}
	}
}

// P16.1, 10: each pair of regions of one partition; the latter one is told. Regions of two partitions may have the same pages.
func TestPagesOfEachPair(t *testing.T) {
	for i := range 8 {
		for j := range i {
			c := full()
			c.Partitions[4].Regions[i].Page = c.Partitions[4].Regions[j].Page - 1
			wantCheck(t, "a pair", c, api.ErrAdmitPages, inside(4, i))
		}
	}
}

// P16.1, 10: frames that two regions have, of one partition or of two.
func TestShared(t *testing.T) {
	for _, x := range []struct {
		name           string
		frame1, pages1 int
		frame2, pages2 int
		apart          bool
	}{
		{"the same", 300, 2, 300, 2, false},
		{"the last frame of the first one", 300, 2, 301, 2, false},
		{"the first frame of the first one", 300, 2, 299, 2, false},
		{"within", 300, 5, 302, 1, false},
		{"around", 302, 1, 300, 5, false},
		{"right behind", 300, 2, 302, 2, true},
		{"right ahead", 300, 2, 298, 2, true},
		{"the last frames", 1022, 1, 1023, 1, true},
		{"the last frame", 1023, 1, 1023, 1, false},
	} {
		c := least()
		c.Frames, c.Room = 1024, 200
		one := api.Region{Page: 0, Pages: x.pages1, Frame: x.frame1, Rights: 7}
		another := api.Region{Page: 100, Pages: x.pages2, Frame: x.frame2, Rights: 7}
		c.Partitions[0].Regions = []api.Region{one, another}
		e, where := api.ErrAdmitShared, inside(0, 1)
		if x.apart {
			e, where = api.OK, api.Where{}
		}
		wantCheck(t, x.name+", one partition", c, e, where)
		c.Partitions[0].Regions = []api.Region{one}
		for _, regions := range [][]api.Region{{another}, {{Page: 20, Pages: 1, Frame: 250, Rights: 1}, another}} {
			c.Partitions = append(c.Partitions[:1:1], api.Partition{Name: "b", Entry: 1600, Regions: regions})
			if !x.apart {
				where = inside(1, len(regions)-1)
			}
			wantCheck(t, x.name+", two partitions", c, e, where)
		}
	}
}

// P16.1, 10: each pair of regions of all; the latter one is told.
func TestSharedOfEachPair(t *testing.T) {
	for n := range 64 {
		for m := range n {
			c := full()
			c.Partitions[n/8].Regions[n%8].Frame = c.Partitions[m/8].Regions[m%8].Frame
			wantCheck(t, "a pair", c, api.ErrAdmitShared, inside(n/8, n%8))
		}
	}
}

// P16.1, 11: the entry, and the region that has its page.
func TestEntry(t *testing.T) {
	entry := func(n int) func(c *api.Config) { return func(c *api.Config) { c.Partitions[1].Entry = n } }
	wantChanges(t, full, []change{
		{"Entry -1", entry(-1), api.ErrAdmitEntry, at(1)},
		{"Entry -1 of the first page", func(c *api.Config) {
			c.Partitions[1].Regions[0].Page = 0
			c.Partitions[1].Entry = -1
		}, api.ErrAdmitEntry, at(1)},
		{"Entry the least", entry(math.MinInt), api.ErrAdmitEntry, at(1)},
		{"Entry 0 of a page that is there", func(c *api.Config) {
			c.Partitions[1].Regions[0].Page = 0
			c.Partitions[1].Entry = 0
		}, api.OK, api.Where{}},
		{"Entry 0", entry(0), api.ErrAdmitEntry, at(1)},
		{"Entry 479", entry(479), api.ErrAdmitEntry, at(1)},
		{"Entry 480", entry(480), api.OK, api.Where{}},
		{"Entry 511", entry(511), api.OK, api.Where{}},
		{"Entry 512", entry(512), api.ErrAdmitEntry, at(1)},
		{"Entry 4063", entry(4063), api.ErrAdmitEntry, at(1)},
		{"Entry 4064", entry(4064), api.OK, api.Where{}},
		{"Entry 4096", entry(4096), api.ErrAdmitEntry, at(1)},
		{"Entry the greatest", entry(math.MaxInt), api.ErrAdmitEntry, at(1)},
	})
	for rights := 1; rights <= 7; rights++ {
		c := full()
		c.Partitions[6].Regions[7].Rights = rights
		if rights >= 4 {
			wantCheck(t, "with the right to run", c, api.OK, api.Where{})
		} else {
			wantCheck(t, "without it", c, api.ErrAdmitEntry, at(6))
		}
	}
}

// P16.1, 12 and 13: ports.
func TestPorts(t *testing.T) {
	wantChanges(t, full, []change{
		{"nine ports", func(c *api.Config) {
			c.Partitions[2].Ports = append(c.Partitions[2].Ports, api.Port{Channel: 4})
		}, api.ErrAdmitPorts, at(2)},
		{"channel -1", func(c *api.Config) { c.Partitions[2].Ports[3].Channel = -1 }, api.ErrAdmitPort, inside(2, 3)},
		{"channel 16", func(c *api.Config) { c.Partitions[7].Ports[7].Channel = 16 }, api.ErrAdmitPort, inside(7, 7)},
		{"channel the greatest", func(c *api.Config) { c.Partitions[0].Ports[0].Channel = math.MaxInt }, api.ErrAdmitPort, inside(0, 0)},
		{"channel the least", func(c *api.Config) { c.Partitions[0].Ports[0].Channel = math.MinInt }, api.ErrAdmitPort, inside(0, 0)},
		{"two of one partition", func(c *api.Config) {
			c.Partitions[3].Ports[6].Channel = -1
			c.Partitions[3].Ports[5].Channel = 99
		}, api.ErrAdmitPort, inside(3, 5)},
		{"no channels", func(c *api.Config) { c.Channels = nil }, api.ErrAdmitPort, inside(0, 0)},
		{"no channels, no ports", func(c *api.Config) {
			c.Channels = nil
			for p := range c.Partitions {
				c.Partitions[p].Ports = nil
			}
		}, api.OK, api.Where{}},
	})
}

// P16.1, 14: channels that may not be.
func TestChannel(t *testing.T) {
	for _, x := range []struct {
		h  api.Channel
		ok bool
	}{
		{api.Channel{Kind: 1, Words: 1}, true},
		{api.Channel{Kind: 1, Words: 16}, true},
		{api.Channel{Kind: 2, Words: 1, Depth: 1}, true},
		{api.Channel{Kind: 2, Words: 16, Depth: 8}, true},
		{api.Channel{Kind: 0, Words: 1}, false},
		{api.Channel{Kind: 0, Words: 1, Depth: 1}, false},
		{api.Channel{Kind: 3, Words: 1}, false},
		{api.Channel{Kind: 3, Words: 1, Depth: 1}, false},
		{api.Channel{Kind: -1, Words: 1}, false},
		{api.Channel{Kind: math.MaxInt, Words: 1}, false},
		{api.Channel{Kind: 1, Words: 0}, false},
		{api.Channel{Kind: 1, Words: -1}, false},
		{api.Channel{Kind: 1, Words: 17}, false},
		{api.Channel{Kind: 1, Words: math.MaxInt}, false},
		{api.Channel{Kind: 1, Words: 1, Depth: 1}, false},
		{api.Channel{Kind: 1, Words: 1, Depth: -1}, false},
		{api.Channel{Kind: 2, Words: 0, Depth: 1}, false},
		{api.Channel{Kind: 2, Words: 17, Depth: 1}, false},
		{api.Channel{Kind: 2, Words: 1, Depth: 0}, false},
		{api.Channel{Kind: 2, Words: 1, Depth: -1}, false},
		{api.Channel{Kind: 2, Words: 1, Depth: 9}, false},
		{api.Channel{Kind: 2, Words: 1, Depth: math.MaxInt}, false},
	} {
		c := example()
		c.Kernel, c.Room = 30, 34
		c.Channels[0] = x.h
		e, where := api.ErrAdmitChannel, at(0)
		if x.ok {
			e, where = api.OK, api.Where{}
		}
		wantCheck(t, "a channel", c, e, where)
		f := full()
		f.Channels[11] = x.h
		if !x.ok {
			wantCheck(t, "a channel among others", f, e, at(11))
		}
	}
}

// P16.1, 15 and 16: how many ports of all partitions send, and how many receive.
func TestEndsOfChannels(t *testing.T) {
	for _, kind := range []int{api.KindSampling, api.KindQueuing} {
		for sources := range 4 {
			for dests := range 7 {
				c := full()
				c.Channels = []api.Channel{{Kind: kind, Words: 2, Depth: kind - 1}}
				for p := range c.Partitions {
					c.Partitions[p].Ports = nil
				}
				for i := range sources + dests {
					x := &c.Partitions[7-3*i%8]
					x.Ports = append(x.Ports, api.Port{Source: i < sources})
				}
				e, where := api.OK, api.Where{}
				switch {
				case sources != 1:
					e, where = api.ErrAdmitSource, at(0)
				case dests == 0, kind == api.KindSampling && dests > 4, kind == api.KindQueuing && dests > 1:
					e, where = api.ErrAdmitDests, at(0)
				}
				wantCheck(t, strconv.Itoa(sources)+" and "+strconv.Itoa(dests), c, e, where)
			}
		}
	}
}

// P16.1, 15 and 16: a partition may send to itself; a channel without ports has no source.
func TestEndsInOnePartition(t *testing.T) {
	c := least()
	c.Frames, c.Room, c.Kernel = 100, 50, 40
	c.Channels = []api.Channel{{Kind: api.KindQueuing, Words: 1, Depth: 1}, {Kind: api.KindSampling, Words: 1}}
	c.Partitions[0].Ports = []api.Port{{Channel: 1}, {Channel: 0}, {Channel: 1, Source: true}, {Channel: 0, Source: true}}
	wantCheck(t, "to itself", c, api.OK, api.Where{})
	c.Partitions[0].Ports = c.Partitions[0].Ports[1:]
	wantCheck(t, "without a destination", c, api.ErrAdmitDests, at(1))
	c.Partitions[0].Ports = nil
	wantCheck(t, "without ports", c, api.ErrAdmitSource, at(0))
}

// P16.1, 17: the number of a core's windows.
func TestWindows(t *testing.T) {
	for k := range 4 {
		wantChanges(t, full, []change{
			{"no windows", func(c *api.Config) { c.Cores[k] = nil }, api.ErrAdmitWindows, at(k)},
			{"no windows, empty", func(c *api.Config) { c.Cores[k] = []api.Window{} }, api.ErrAdmitWindows, at(k)},
			{"17 windows", func(c *api.Config) {
				c.Cores[k][0].Usable -= 90
				c.Cores[k] = append(c.Cores[k], api.Window{Partition: -1, Usable: 8, Slack: 82})
			}, api.ErrAdmitWindows, at(k)},
			{"15 windows", func(c *api.Config) {
				c.Cores[k] = c.Cores[k][1:]
				c.Cores[k][3].Usable += 1024
			}, api.OK, api.Where{}},
			{"one window", func(c *api.Config) { c.Cores[k] = []api.Window{{Partition: -1, Usable: 16302, Slack: 82}} }, api.OK, api.Where{}},
			{"one window, nearly all slack", func(c *api.Config) { c.Cores[k] = []api.Window{{Partition: -1, Usable: 1, Slack: 16383}} }, api.OK, api.Where{}},
		})
	}
}

// P16.1, 18: windows that may not be, each number by itself.
func TestWindow(t *testing.T) {
	for _, x := range []struct {
		name  string
		w     api.Window
		e     api.Errno
		where api.Where
	}{
		{"nobody's", api.Window{Partition: -1, Usable: 942, Slack: 82}, api.OK, api.Where{}},
		{"partition 5", api.Window{Partition: 5, Usable: 942, Slack: 82}, api.OK, api.Where{}},
		{"partition -2", api.Window{Partition: -2, Usable: 942, Slack: 82}, api.ErrAdmitWindow, inside(2, 9)},
		{"partition 8", api.Window{Partition: 8, Usable: 942, Slack: 82}, api.ErrAdmitWindow, inside(2, 9)},
		{"partition the greatest", api.Window{Partition: math.MaxInt, Usable: 942, Slack: 82}, api.ErrAdmitWindow, inside(2, 9)},
		{"partition the least", api.Window{Partition: math.MinInt, Usable: 942, Slack: 82}, api.ErrAdmitWindow, inside(2, 9)},
		{"Usable 0", api.Window{Partition: 4, Usable: 0, Slack: 1024}, api.ErrAdmitWindow, inside(2, 9)},
		{"Usable 1", api.Window{Partition: 4, Usable: 1, Slack: 1023}, api.OK, api.Where{}},
		{"Usable -1", api.Window{Partition: 4, Usable: -1, Slack: 1025}, api.ErrAdmitWindow, inside(2, 9)},
		{"Usable 16384", api.Window{Partition: 4, Usable: 16384, Slack: 82}, api.ErrAdmitTiles, at(2)},
		{"Usable 16385", api.Window{Partition: 4, Usable: 16385, Slack: 82}, api.ErrAdmitWindow, inside(2, 9)},
		{"Usable the greatest", api.Window{Partition: 4, Usable: math.MaxInt, Slack: 82}, api.ErrAdmitWindow, inside(2, 9)},
		{"Usable that comes round", api.Window{Partition: 4, Usable: math.MaxInt, Slack: math.MinInt + 1025}, api.ErrAdmitWindow, inside(2, 9)},
		{"Slack 81", api.Window{Partition: 4, Usable: 943, Slack: 81}, api.ErrAdmitSlack, inside(2, 9)},
		{"Slack 83", api.Window{Partition: 4, Usable: 941, Slack: 83}, api.OK, api.Where{}},
		{"Slack 0", api.Window{Partition: 4, Usable: 1024, Slack: 0}, api.ErrAdmitSlack, inside(2, 9)},
		{"Slack 0 of nobody", api.Window{Partition: -1, Usable: 1024, Slack: 0}, api.ErrAdmitSlack, inside(2, 9)},
		{"Slack -1", api.Window{Partition: 4, Usable: 1025, Slack: -1}, api.ErrAdmitSlack, inside(2, 9)},
		{"Slack 16384", api.Window{Partition: 4, Usable: 942, Slack: 16384}, api.ErrAdmitTiles, at(2)},
		{"Slack 16385", api.Window{Partition: 4, Usable: 942, Slack: 16385}, api.ErrAdmitSlack, inside(2, 9)},
		{"Slack the greatest", api.Window{Partition: 4, Usable: 942, Slack: math.MaxInt}, api.ErrAdmitSlack, inside(2, 9)},
		{"a partition of core 0", api.Window{Partition: 0, Usable: 942, Slack: 82}, api.ErrAdmitSplit, inside(2, 9)},
		{"a partition of core 1", api.Window{Partition: 3, Usable: 942, Slack: 82}, api.ErrAdmitSplit, inside(2, 9)},
		{"a partition of core 3", api.Window{Partition: 6, Usable: 942, Slack: 82}, api.ErrAdmitSplit, inside(3, 0)},
		{"the window first", api.Window{Partition: 8, Usable: 1, Slack: 0}, api.ErrAdmitWindow, inside(2, 9)},
		{"the slack ahead of the split", api.Window{Partition: 0, Usable: 1, Slack: 0}, api.ErrAdmitSlack, inside(2, 9)},
	} {
		c := full()
		c.Cores[2][9] = x.w
		wantCheck(t, x.name, c, x.e, x.where)
	}
}

// P16.1, 18: one core may have many windows of one partition, and each core some of nobody's; one partition may have none.
func TestWindowsOfOne(t *testing.T) {
	wantChanges(t, full, []change{
		{"all of one", func(c *api.Config) {
			for w := range c.Cores[3] {
				c.Cores[3][w].Partition = 7
			}
		}, api.OK, api.Where{}},
		{"all of nobody", func(c *api.Config) {
			for k := range c.Cores {
				for w := range c.Cores[k] {
					c.Cores[k][w].Partition = -1
				}
			}
		}, api.OK, api.Where{}},
	})
}

// P16.1, 19: windows that do not fill the frame.
func TestTiles(t *testing.T) {
	for k := range 4 {
		for w := range 16 {
			for _, more := range []int{-1, 1} {
				c := full()
				c.Cores[k][w].Usable += more
				wantCheck(t, "Usable", c, api.ErrAdmitTiles, at(k))
				c.Cores[k][15-w].Usable -= more
				if w != 15-w {
					wantCheck(t, "made good", c, api.OK, api.Where{})
				}
			}
			c := full()
			c.Cores[k][w].Slack++
			wantCheck(t, "Slack", c, api.ErrAdmitTiles, at(k))
		}
	}
}

// P16.1, 20: the kernel's area.
func TestKernel(t *testing.T) {
	area := func(kernel, room int) func(c *api.Config) {
		return func(c *api.Config) { c.Kernel, c.Room = kernel, room }
	}
	wantChanges(t, example, []change{
		{"the first frames", area(0, 8), api.OK, api.Where{}},
		{"up to radio", area(0, 10), api.OK, api.Where{}},
		{"into radio", area(0, 11), api.ErrAdmitKernel, whole},
		{"radio's last frame", area(11, 8), api.ErrAdmitKernel, whole},
		{"right behind radio", area(12, 8), api.OK, api.Where{}},
		{"into lamp", area(12, 9), api.ErrAdmitKernel, whole},
		{"lamp's frame", area(20, 8), api.ErrAdmitKernel, whole},
		{"right behind lamp", area(21, 8), api.OK, api.Where{}},
		{"around lamp", area(19, 9), api.ErrAdmitKernel, whole},
		{"all behind lamp", area(21, 43), api.OK, api.Where{}},
		{"one more than there is", area(21, 44), api.ErrAdmitKernel, whole},
		{"the last eight", area(56, 8), api.OK, api.Where{}},
		{"the last seven", area(57, 7), api.ErrAdmitKernel, whole},
		{"the last frame", area(63, 1), api.ErrAdmitKernel, whole},
		{"Kernel 57, Room 8", area(57, 8), api.ErrAdmitKernel, whole},
		{"Kernel 64", area(64, 8), api.ErrAdmitKernel, whole},
		{"Kernel 64, no Room", area(64, 0), api.ErrAdmitKernel, whole},
		{"Kernel -1", area(-1, 8), api.ErrAdmitKernel, whole},
		{"Kernel the least", area(math.MinInt, 8), api.ErrAdmitKernel, whole},
		{"Kernel the least, Room the greatest", area(math.MinInt, math.MaxInt), api.ErrAdmitKernel, whole},
		{"Kernel the greatest", area(math.MaxInt, 8), api.ErrAdmitKernel, whole},
		{"Room 0", area(40, 0), api.ErrAdmitKernel, whole},
		{"Room -1", area(40, -1), api.ErrAdmitKernel, whole},
		{"Room the least", area(40, math.MinInt), api.ErrAdmitKernel, whole},
		{"Room the greatest", area(40, math.MaxInt), api.ErrAdmitKernel, whole},
		{"Room 7", area(40, 7), api.ErrAdmitKernel, whole},
	})
}

// P16.1, 20: each frame of each region may not be the kernel's.
func TestKernelAndEachRegion(t *testing.T) {
	for n := range 64 {
		for _, frame := range []int{511, 600, 1022} {
			c := full()
			c.Partitions[n/8].Regions[n%8].Frame = frame
			wantCheck(t, "a region of the kernel's frames", c, api.ErrAdmitKernel, whole)
		}
		c := full()
		c.Partitions[n/8].Regions[n%8].Frame = 510
		wantCheck(t, "a region right ahead", c, api.OK, api.Where{})
	}
}

// P16.1, 20: the area is just wide enough; one channel's word more, one page more, and it isn't.
func TestRoom(t *testing.T) {
	c := least()
	c.Room = 3
	wantCheck(t, "one frame too few", c, api.ErrAdmitKernel, whole)
	c.Room = 5
	c.Frames, c.Partitions[0].Regions[0].Frame = 7, 5
	wantCheck(t, "one frame more", c, api.OK, api.Where{})
	e := example()
	e.Channels[0].Words = 3
	wantCheck(t, "63 words take four frames, too", e, api.OK, api.Where{})
	e.Channels[0].Words = 4
	wantCheck(t, "65 words take five", e, api.ErrAdmitKernel, whole)
	e.Room = 9
	wantCheck(t, "65 words in nine frames", e, api.OK, api.Where{})
	f := example()
	f.Partitions[1].Regions[0] = api.Region{Page: 0, Pages: 17, Frame: 20, Rights: 5}
	wantCheck(t, "two tables", f, api.ErrAdmitKernel, whole)
	f.Partitions[1].Regions[0].Pages = 16
	wantCheck(t, "one table", f, api.OK, api.Where{})
}

// ordered are faults in the order in which they are told, each of which can be made beside all others.
func ordered() []change {
	list := []change{
		{"Frames", func(c *api.Config) { c.Frames = 1025 }, api.ErrAdmitFrames, whole},
		{"Major", func(c *api.Config) { c.Major = 16385 }, api.ErrAdmitMajor, whole},
		{"cores", func(c *api.Config) { c.Cores = append(c.Cores, nil) }, api.ErrAdmitCores, whole},
		{"partitions", func(c *api.Config) { c.Partitions = append(c.Partitions, api.Partition{}) }, api.ErrAdmitPartitions, whole},
		{"channels", func(c *api.Config) { c.Channels = append(c.Channels, api.Channel{}) }, api.ErrAdmitChannels, whole},
	}
	for _, p := range []int{0, 1, 7} {
		list = append(list, orderedOfPartition(p)...)
	}
	for _, n := range []int{0, 1, 15} {
		list = append(list,
			change{"channel", func(c *api.Config) { c.Channels[n].Words = 0 }, api.ErrAdmitChannel, at(n)},
			change{"source", func(c *api.Config) { c.Partitions[n/2].Ports[n%2*4].Source = false }, api.ErrAdmitSource, at(n)},
			change{"dests", func(c *api.Config) { c.Channels[n] = api.Channel{Kind: api.KindQueuing, Words: 1, Depth: 1} }, api.ErrAdmitDests, at(n)},
		)
	}
	for _, k := range []int{0, 1, 3} {
		list = append(list, orderedOfCore(k)...)
	}
	return append(list, change{"kernel", func(c *api.Config) { c.Room = 1 }, api.ErrAdmitKernel, whole})
}

func orderedOfPartition(p int) []change {
	of := func(turn func(x *api.Partition)) func(c *api.Config) {
		return func(c *api.Config) { turn(&c.Partitions[p]) }
	}
	list := []change{
		{"name", of(func(x *api.Partition) { x.Name = "-" }), api.ErrAdmitName, at(p)},
		{"action", of(func(x *api.Partition) { x.Restarts = 16 }), api.ErrAdmitAction, at(p)},
		{"device", of(func(x *api.Partition) { x.Outputs = 17 }), api.ErrAdmitDevice, at(p)},
		{"regions", of(func(x *api.Partition) { x.Regions = append(x.Regions, api.Region{}) }), api.ErrAdmitRegions, at(p)},
	}
	for i := range 8 {
		list = append(list, change{"region", of(func(x *api.Partition) { x.Regions[i].Rights = 0 }), api.ErrAdmitRegion, inside(p, i)})
		if i > 0 {
			list = append(list,
				change{"pages", of(func(x *api.Partition) { x.Regions[i].Page = x.Regions[0].Page }), api.ErrAdmitPages, inside(p, i)},
				change{"shared", of(func(x *api.Partition) { x.Regions[i].Frame = x.Regions[0].Frame }), api.ErrAdmitShared, inside(p, i)},
			)
		}
	}
	return append(list,
		change{"entry", of(func(x *api.Partition) { x.Entry = 4096 }), api.ErrAdmitEntry, at(p)},
		change{"ports", of(func(x *api.Partition) { x.Ports = append(x.Ports, api.Port{Channel: 99}) }), api.ErrAdmitPorts, at(p)},
		change{"port 1", of(func(x *api.Partition) { x.Ports[1].Channel = -1 }), api.ErrAdmitPort, inside(p, 1)},
		change{"port 6", of(func(x *api.Partition) { x.Ports[6].Channel = 99 }), api.ErrAdmitPort, inside(p, 6)},
	)
}

func orderedOfCore(k int) []change {
	list := []change{
		{"windows", func(c *api.Config) { c.Cores[k] = append(c.Cores[k], api.Window{}) }, api.ErrAdmitWindows, at(k)},
	}
	for w := range 16 {
		list = append(list,
			change{"window", func(c *api.Config) { c.Cores[k][w].Usable = 0 }, api.ErrAdmitWindow, inside(k, w)},
			change{"slack", func(c *api.Config) { c.Cores[k][w].Slack = 81 }, api.ErrAdmitSlack, inside(k, w)},
		)
		if k > 0 {
			list = append(list, change{"split", func(c *api.Config) { c.Cores[k][w].Partition = c.Cores[0][w].Partition }, api.ErrAdmitSplit, inside(k, w)})
		}
	}
	return append(list, change{"tiles", func(c *api.Config) { c.Cores[k][15].Usable = 900 }, api.ErrAdmitTiles, at(k)})
}

// P16.1: of any two faults the one that the list names first; R4.
func TestOrder(t *testing.T) {
	list := ordered()
	for i, first := range list {
		wantChanges(t, full, []change{first})
		for _, later := range list[i+1:] {
			c := full()
			later.turn(&c)
			first.turn(&c)
			if e, where := admit.Check(c); e != first.e || where != first.where {
				t.Errorf("%s %v ahead of %s %v: %d, %v", first.name, first.where, later.name, later.where, e, where)
			}
		}
	}
}

// P16.2: bytes that conf refuses, with the place and the number that it tells.
func TestBytes(t *testing.T) {
	good, e := conf.Encode(example())
	if e != api.OK {
		t.Fatal(e)
	}
	for _, x := range []struct {
		name  string
		b     []byte
		where api.Where
	}{
		{"nil", nil, inside(0, 110)},
		{"nothing", []byte{}, inside(0, 110)},
		{"the mark alone", []byte{66, 75, 67, 49}, inside(4, 110)},
		{"another mark", append([]byte{65}, good[1:]...), inside(0, 110)},
		{"one byte more", append(slices.Clone(good), 0), inside(len(good), 110)},
		{"one byte less", good[:len(good)-1], inside(len(good)-4, 110)},
		{"a wrong sum", append(slices.Clone(good[:len(good)-1]), good[len(good)-1]^1), inside(len(good)-4, 111)},
		{"too many bytes", make([]byte, 16385), inside(0, 2)},
		{"as many bytes as may be", make([]byte, 16384), inside(0, 110)},
	} {
		c, e, where := admit.Admit(x.b)
		if !reflect.DeepEqual(c, api.Config{}) || e != 424 || where != x.where {
			t.Errorf("%s: %+v, %d, %v, want %v", x.name, c, e, where, x.where)
		}
	}
	for i := range good {
		for _, b := range [][]byte{good[:i], spoilt(good, i)} {
			_, place, wantE := conf.Decode(b)
			c, e, where := admit.Admit(b)
			if !reflect.DeepEqual(c, api.Config{}) || e != 424 || where != inside(place, int(wantE)) {
				t.Errorf("%d: %+v, %d, %v, want %d, %d", i, c, e, where, place, wantE)
			}
		}
	}
}

// spoilt is a list of bytes with one of them turned over.
func spoilt(b []byte, i int) []byte {
	b = slices.Clone(b)
	b[i] ^= 255
	return b
}

// P16.2: a configuration that holds together is told, another one is not.
func TestAdmit(t *testing.T) {
	for _, c := range []api.Config{example(), full(), least()} {
		b, e := conf.Encode(c)
		if e != api.OK {
			t.Fatal(e)
		}
		if got, e, where := admit.Admit(b); !same(got, c) || e != api.OK || where != (api.Where{}) {
			t.Errorf("%+v, %d, %v, want %+v", got, e, where, c)
		}
		c.Room = 1
		b, _ = conf.Encode(c)
		if got, e, where := admit.Admit(b); !reflect.DeepEqual(got, api.Config{}) || e != api.ErrAdmitKernel || where != whole {
			t.Errorf("%+v, %d, %v, want ErrAdmitKernel alone", got, e, where)
		}
	}
}

// R5: what is handed in stays as it is, the room behind its ends too, and an answer shares nothing with it.
func TestArgumentsStay(t *testing.T) {
	c := copyOf(full())
	before := plain(behind(c))
	admit.Check(c)
	if !reflect.DeepEqual(plain(behind(c)), before) {
		t.Error("Check has changed what it was given")
	}
	b, _ := conf.Encode(example())
	room := append(slices.Clone(b), 9, 9, 9)
	b = room[:len(b)]
	kept := slices.Clone(room)
	got, e, _ := admit.Admit(b)
	if e != api.OK || !slices.Equal(room, kept) {
		t.Error("Admit has changed what it was given", e)
	}
	for i := range b {
		b[i] = 'x'
	}
	if !same(got, example()) {
		t.Error("an answer shares memory with what was given")
	}
	again, _, _ := admit.Admit(kept[:len(b)])
	again.Partitions[0].Regions[0].Frame = 3
	if !same(got, example()) {
		t.Error("two answers share memory")
	}
}

// R1: lists that are far too long are refused by their length.
func TestLongLists(t *testing.T) {
	long := 1 << 20
	wantChanges(t, example, []change{
		{"cores", func(c *api.Config) { c.Cores = make([][]api.Window, long) }, api.ErrAdmitCores, whole},
		{"partitions", func(c *api.Config) { c.Partitions = make([]api.Partition, long) }, api.ErrAdmitPartitions, whole},
		{"channels", func(c *api.Config) { c.Channels = make([]api.Channel, long) }, api.ErrAdmitChannels, whole},
		{"a name", func(c *api.Config) { c.Partitions[0].Name = strings.Repeat("a", long) }, api.ErrAdmitName, at(0)},
		{"regions", func(c *api.Config) { c.Partitions[0].Regions = make([]api.Region, long) }, api.ErrAdmitRegions, at(0)},
		{"ports", func(c *api.Config) { c.Partitions[0].Ports = make([]api.Port, long) }, api.ErrAdmitPorts, at(0)},
		{"windows", func(c *api.Config) { c.Cores[0] = make([]api.Window, long) }, api.ErrAdmitWindows, at(0)},
	})
}
