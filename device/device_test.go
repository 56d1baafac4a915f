package device_test

import (
	"math"
	"slices"
	"testing"

	"bulkhead/api"
	"bulkhead/device"
	"bulkhead/mem"
)

// The last words of the two partitions' states in the memory of the examples' configuration: the barrier at 32, then 24 words for each partition.
const (
	heardOf0 = 57
	heardOf1 = 81
)

// known is the configuration of the chapter's examples.
func known() api.Config {
	room := func(frame int) []api.Region { return []api.Region{{Page: 0, Pages: 1, Frame: frame, Rights: 7}} }
	return api.Config{
		Frames: 10, Major: 200, Kernel: 2, Room: 8,
		Cores: [][]api.Window{{{Partition: -1, Usable: 100, Slack: 100}}},
		Partitions: []api.Partition{
			{Name: "a", Inputs: 2, Outputs: 1, Regions: room(0)},
			{Name: "b", Inputs: 0, Outputs: 0, Regions: room(1)},
		},
	}
}

// open is the same configuration with devices that tell and hear as much as may be.
func open() api.Config {
	c := known()
	for p := range c.Partitions {
		c.Partitions[p].Inputs, c.Partitions[p].Outputs = api.MaxInputs, api.MaxOutputs
	}
	return c
}

// numbers that no partition has, of whatever configuration.
var wrongNumbers = []int{-1, -2, 8, 9, 256, 1 << 31, 1 << 32, 1<<32 + 1, math.MinInt, math.MinInt + 1, math.MaxInt, math.MaxInt - 1}

// of makes a list of words.
func of(words ...uint32) []uint32 { return words }

// feed makes a feed.
func feed(p, epoch int, words ...uint32) api.Feed {
	return api.Feed{Partition: p, Epoch: epoch, Words: words}
}

// devicesOf makes a configuration's devices.
func devicesOf(t *testing.T, c api.Config, feeds ...api.Feed) *device.Devices {
	t.Helper()
	d, e := device.New(c, feeds)
	if d == nil || e != api.OK {
		t.Fatalf("New with %v: %v, error %d", feeds, d, e)
	}
	return d
}

// refuses asks that New answers nil and an error.
func refuses(t *testing.T, c api.Config, want api.Errno, feeds ...api.Feed) {
	t.Helper()
	if d, e := device.New(c, feeds); d != nil || e != want {
		t.Errorf("New with %v: %v, error %d, want error %d", feeds[:min(len(feeds), 5)], d, e, want)
	}
}

// memory makes one of so many frames of zeros.
func memory(t *testing.T, frames int) *mem.Memory {
	t.Helper()
	m, e := mem.New(frames)
	if e != api.OK {
		t.Fatalf("mem.New(%d): error %d", frames, e)
	}
	return m
}

// inputs asks for a word that a device tells.
func inputs(t *testing.T, d *device.Devices, p, epoch int, index uint32, told int, word uint32) {
	t.Helper()
	if x, w := d.Input(p, epoch, index); x != told || w != word {
		t.Errorf("Input(%d, %d, %d): told %d, %d, want told %d, %d", p, epoch, index, x, w, told, word)
	}
}

// outputs tells a device a word, and asks for the answer.
func outputs(t *testing.T, d *device.Devices, m *mem.Memory, p, told int, e api.Errno) {
	t.Helper()
	if x, f := d.Output(m, p); x != told || f != e {
		t.Errorf("Output(%d): told %d, error %d, want told %d, error %d", p, x, f, told, e)
	}
}

// begins lets partitions begin a frame, and asks for the error.
func begins(t *testing.T, d *device.Devices, m *mem.Memory, e api.Errno, partitions ...int) {
	t.Helper()
	if f := d.Begin(m, partitions); f != e {
		t.Errorf("Begin(%d): error %d, want %d", partitions, f, e)
	}
}

// sameFeed tells whether two feeds say the same.
func sameFeed(a, b api.Feed) bool {
	return a.Partition == b.Partition && a.Epoch == b.Epoch && slices.Equal(a.Words, b.Words)
}

// feeds asks for all that the devices tell.
func feeds(t *testing.T, d *device.Devices, want ...api.Feed) {
	t.Helper()
	if got := d.Feeds(); !slices.EqualFunc(got, want, sameFeed) {
		t.Errorf("Feeds: %v, want %v", got, want)
	}
}

// stays asks that a memory has these words.
func stays(t *testing.T, m *mem.Memory, want []uint32) {
	t.Helper()
	for at, w := range m.Words() {
		if at >= len(want) || w != want[at] {
			t.Errorf("the word %d is %x", at, w)
			return
		}
	}
}

// marked makes a memory of the examples' size without a word of 0, and tells its words.
func marked(t *testing.T) (*mem.Memory, []uint32) {
	t.Helper()
	words := make([]uint32, 160)
	for i := range words {
		words[i] = uint32(i)*0x01010101 + 0x80000001
	}
	m, e := mem.Of(words)
	if e != api.OK {
		t.Fatalf("mem.Of: error %d", e)
	}
	return m, words
}

// P22.1, P22.2, P22.5: the first three rows of the chapter's examples.
func TestExampleFeeds(t *testing.T) {
	d := devicesOf(t, known(), feed(0, 3, 7, 9), feed(0, 1))
	inputs(t, d, 0, 3, 0, api.ToldOK, 7)
	inputs(t, d, 0, 3, 1, api.ToldOK, 9)
	inputs(t, d, 0, 3, 2, api.ToldIndex, 0)
	inputs(t, d, 0, 1, 0, api.ToldIndex, 0)
	inputs(t, d, 0, 4, 0, api.ToldIndex, 0)
	inputs(t, d, 1, 3, 0, api.ToldIndex, 0)
	inputs(t, d, 9, 3, 0, api.ToldIndex, 0)
	feeds(t, d, feed(0, 3, 7, 9))
}

// P22.3, P22.4: the rows of Output and Begin, with the words in the memory.
func TestExampleOutputs(t *testing.T) {
	d, m := devicesOf(t, known()), memory(t, 10)
	want := make([]uint32, 160)
	outputs(t, d, m, 0, api.ToldOK, api.OK)
	want[heardOf0] = 1
	stays(t, m, want)
	outputs(t, d, m, 0, api.ToldFull, api.OK)
	stays(t, m, want)
	begins(t, d, m, api.OK, 0)
	stays(t, m, make([]uint32, 160))
	outputs(t, d, m, 0, api.ToldOK, api.OK)
	outputs(t, d, m, 1, api.ToldFull, api.OK)
	outputs(t, d, m, 2, 0, api.ErrArg)
	begins(t, d, m, api.ErrArg, 0, 2)
	stays(t, m, want)
}

// P22.1: the last row: feeds that may not be.
func TestExampleRefused(t *testing.T) {
	c := known()
	refuses(t, c, api.ErrDeviceFeed, feed(0, 3, 1, 2, 3))
	refuses(t, c, api.ErrDeviceFeed, feed(1, 0, 1))
	refuses(t, c, api.ErrDeviceFeed, feed(2, 0))
	refuses(t, c, api.ErrDeviceFeed, feed(0, -1))
	refuses(t, c, api.ErrDeviceFeed, feed(0, 3), feed(0, 3, 1))
}

// P22.1, P22.2: the edges of what may be: the first and the last frame, as many words as Inputs, the last partition, no feeds at all.
func TestEdgesThatMayBe(t *testing.T) {
	c := open()
	all := make([]uint32, api.MaxInputs)
	for i := range all {
		all[i] = math.MaxUint32 - uint32(i)
	}
	d := devicesOf(t, c, feed(1, api.MaxEpoch-1, all...), feed(1, 0, 0), feed(0, 0, all...), feed(0, api.MaxEpoch-1))
	for i, w := range all {
		inputs(t, d, 1, api.MaxEpoch-1, uint32(i), api.ToldOK, w)
		inputs(t, d, 0, 0, uint32(i), api.ToldOK, w)
	}
	inputs(t, d, 1, 0, 0, api.ToldOK, 0)
	inputs(t, d, 1, 0, 1, api.ToldIndex, 0)
	inputs(t, d, 0, api.MaxEpoch-1, 0, api.ToldIndex, 0)
	feeds(t, d, feed(0, 0, all...), feed(1, 0, 0), feed(1, api.MaxEpoch-1, all...))
	none := devicesOf(t, c)
	inputs(t, none, 0, 0, 0, api.ToldIndex, 0)
	feeds(t, none)
	devicesOf(t, known(), feed(1, 0), feed(0, 0))
}

// P22.2: an index is taken as it stands: none is reckoned modulo anything.
func TestNoSuchIndex(t *testing.T) {
	all := make([]uint32, api.MaxInputs)
	d := devicesOf(t, open(), feed(0, 3, 7, 9), feed(1, 3, all...))
	for _, index := range []uint32{2, 3, 15, 16, 17, 255, 256, 65536, 1<<31 - 1, 1 << 31, 1<<31 + 1, math.MaxUint32 - 1, math.MaxUint32} {
		inputs(t, d, 0, 3, index, api.ToldIndex, 0)
		if index > 15 {
			inputs(t, d, 1, 3, index, api.ToldIndex, 0)
		}
	}
}

// P22.2: no such partition, no such frame.
func TestNoSuchPartitionOrFrame(t *testing.T) {
	d := devicesOf(t, open(), feed(0, 0, 7), feed(1, 0, 8), feed(0, 1, 9), feed(1, api.MaxEpoch-1, 6))
	for _, p := range append(wrongNumbers, 2) {
		for _, epoch := range []int{0, 1, api.MaxEpoch - 1} {
			inputs(t, d, p, epoch, 0, api.ToldIndex, 0)
		}
	}
	for _, epoch := range append(wrongNumbers, 2, api.MaxEpoch-2, api.MaxEpoch, api.MaxEpoch+1) {
		inputs(t, d, 0, epoch, 0, api.ToldIndex, 0)
		inputs(t, d, 1, epoch, 0, api.ToldIndex, 0)
	}
	inputs(t, d, 1, 1, 0, api.ToldIndex, 0)
	inputs(t, d, 0, api.MaxEpoch-1, 0, api.ToldIndex, 0)
}

// P22.5: by their Epochs, and of one Epoch by Partition, whatever the order they stood in; without those of no words.
func TestFeedsOrder(t *testing.T) {
	given := []api.Feed{feed(0, 10, 1), feed(1, 9, 2), feed(1, 2, 3), feed(0, 2, 4), feed(1, 10, 5), feed(0, 9), feed(1, 0), feed(0, 100, 6)}
	want := []api.Feed{feed(0, 2, 4), feed(1, 2, 3), feed(1, 9, 2), feed(0, 10, 1), feed(1, 10, 5), feed(0, 100, 6)}
	for range given {
		d := devicesOf(t, open(), given...)
		for range 3 {
			feeds(t, d, want...)
		}
		given = append(given[1:], given[0])
	}
	slices.Reverse(given)
	feeds(t, devicesOf(t, open(), given...), want...)
}

// many makes so many feeds of unlike frames.
func many(n int) []api.Feed {
	out := make([]api.Feed, n)
	for i := range out {
		out[i] = feed(i%2, n-i, uint32(i))
	}
	return out
}

// P22.1: MaxFeeds feeds may be, one more may not, whatever they are; ErrLong comes ahead of all others.
func TestMostFeeds(t *testing.T) {
	given := many(api.MaxFeeds)
	d := devicesOf(t, open(), given...)
	for i, f := range given {
		inputs(t, d, f.Partition, f.Epoch, 0, api.ToldOK, uint32(i))
	}
	slices.Reverse(given)
	feeds(t, d, given...)
	devicesOf(t, silent(), manySilent(api.MaxFeeds)...)

	refuses(t, open(), api.ErrLong, many(api.MaxFeeds+1)...)
	refuses(t, open(), api.ErrLong, make([]api.Feed, api.MaxFeeds+1)...)
	refuses(t, api.Config{}, api.ErrLong, many(api.MaxFeeds+1)...)
	refuses(t, open(), api.ErrLong, append(many(api.MaxFeeds), feed(9, -1))...)
	refuses(t, api.Config{}, api.ErrDeviceConfig, many(api.MaxFeeds)...)
	refuses(t, open(), api.ErrDeviceFeed, append(many(api.MaxFeeds-1), feed(9, -1))...)
}

// silent is the examples' configuration with devices that tell nothing.
func silent() api.Config {
	c := known()
	c.Partitions[0].Inputs = 0
	return c
}

// manySilent makes so many feeds without words.
func manySilent(n int) []api.Feed {
	out := many(n)
	for i := range out {
		out[i].Words = nil
	}
	return out
}

// P22.3: Output counts up to Outputs, whatever Outputs is; behind that nothing changes.
func TestOutputsUpToMost(t *testing.T) {
	for most := range api.MaxOutputs + 1 {
		c := known()
		c.Partitions[1].Outputs = most
		d := devicesOf(t, c)
		m, want := marked(t)
		m.Write(heardOf1, 0)
		for i := range most {
			outputs(t, d, m, 1, api.ToldOK, api.OK)
			want[heardOf1] = uint32(i + 1)
			stays(t, m, want)
		}
		want[heardOf1] = uint32(most)
		for range 3 {
			outputs(t, d, m, 1, api.ToldFull, api.OK)
			stays(t, m, want)
		}
	}
}

// P22.3: the word is taken as it stands: all that is Outputs or more is full, and stays.
func TestMoreThanOutputs(t *testing.T) {
	c := known()
	c.Partitions[0].Outputs = 3
	d := devicesOf(t, c)
	m, want := marked(t)
	for _, heard := range []uint32{3, 4, 15, 16, 17, 256, 1<<31 - 1, 1 << 31, 1<<31 + 1, math.MaxUint32 - 1, math.MaxUint32} {
		m.Write(heardOf0, heard)
		want[heardOf0] = heard
		outputs(t, d, m, 0, api.ToldFull, api.OK)
		stays(t, m, want)
	}
	m.Write(heardOf0, 2)
	want[heardOf0] = 3
	outputs(t, d, m, 0, api.ToldOK, api.OK)
	stays(t, m, want)
}

// P22.4, P22.6: the last word of the state of each of them is 0, whatever it was; all others stay. One may stand several times, and there may be none.
func TestBegin(t *testing.T) {
	d := devicesOf(t, open())
	for _, x := range []struct{ partitions, zeros []int }{
		{nil, nil}, {[]int{}, nil}, {[]int{0}, []int{heardOf0}}, {[]int{1}, []int{heardOf1}},
		{[]int{0, 1}, []int{heardOf0, heardOf1}}, {[]int{1, 0}, []int{heardOf0, heardOf1}},
		{[]int{1, 1, 1}, []int{heardOf1}}, {make([]int, 1000), []int{heardOf0}}, {[]int{0, 1, 0}, []int{heardOf0, heardOf1}},
	} {
		m, want := marked(t)
		for _, at := range x.zeros {
			want[at] = 0
		}
		begins(t, d, m, api.OK, x.partitions...)
		stays(t, m, want)
		begins(t, d, m, api.OK, x.partitions...)
		stays(t, m, want)
	}
}

// P22.3, P22.4: where the words lie hangs on Kernel and on how many partitions stand ahead.
func TestPlaces(t *testing.T) {
	c := open()
	c.Kernel, c.Frames = 7, 15
	d, m := devicesOf(t, c), memory(t, 15)
	want := make([]uint32, 240)
	outputs(t, d, m, 1, api.ToldOK, api.OK)
	want[heardOf1+5*16] = 1
	stays(t, m, want)
	outputs(t, d, m, 0, api.ToldOK, api.OK)
	want[heardOf0+5*16] = 1
	stays(t, m, want)
	begins(t, d, m, api.OK, 1)
	want[heardOf1+5*16] = 0
	stays(t, m, want)
}

// R5: what is handed in is neither changed nor kept, the room behind its end neither.
func TestArgumentsStay(t *testing.T) {
	words := make([]uint32, 5)
	for i := range words {
		words[i] = uint32(i + 1)
	}
	given := []api.Feed{{Partition: 1, Epoch: 5, Words: words[:2]}, {Partition: 0, Epoch: 5, Words: words[3:3]}, {Partition: 0, Epoch: 2, Words: words[1:3]}, feed(9, 9, 9)}
	before := slices.Clone(given)
	partitions := []int{1, 0, 1, 9}
	c := open()
	d, e := device.New(c, given[:3])
	if e != api.OK {
		t.Fatalf("New: error %d", e)
	}
	m := memory(t, 10)
	if e := d.Begin(m, partitions[:3]); e != api.OK {
		t.Errorf("Begin: error %d", e)
	}
	if !slices.EqualFunc(given, before, sameFeed) || !slices.Equal(words, of(1, 2, 3, 4, 5)) || !slices.Equal(partitions, []int{1, 0, 1, 9}) {
		t.Errorf("what was handed in has changed: %v, %d, %d", given, words, partitions)
	}
	clear(words)
	clear(given)
	clear(partitions)
	c.Partitions[0].Outputs, c.Partitions[1].Outputs = 0, 0
	clear(c.Partitions)
	inputs(t, d, 1, 5, 1, api.ToldOK, 2)
	inputs(t, d, 0, 2, 1, api.ToldOK, 3)
	feeds(t, d, feed(0, 2, 2, 3), feed(1, 5, 1, 2))
	outputs(t, d, m, 1, api.ToldOK, api.OK)
}

// R5: what Feeds answers is new memory, and no two lists of it share any.
func TestAnswersAreNew(t *testing.T) {
	given := []api.Feed{feed(0, 1, 4), feed(0, 2, 5, 6), feed(1, 2, 7, 8, 9)}
	d := devicesOf(t, open(), given...)
	one, other := d.Feeds(), d.Feeds()
	for i := range one {
		spare := one[i].Words[:cap(one[i].Words)]
		for k := range spare {
			spare[k] = 99
		}
		for k := i + 1; k < len(one); k++ {
			if !sameFeed(one[k], given[k]) {
				t.Errorf("the words of feed %d lie among those of feed %d", k, i)
			}
		}
	}
	clear(one[:cap(one)])
	if !slices.EqualFunc(other, given, sameFeed) {
		t.Errorf("another answer has changed: %v", other)
	}
	feeds(t, d, given...)
	inputs(t, d, 1, 2, 2, api.ToldOK, 9)
}

// R3: nil and empty lists are the same.
func TestNilAndEmpty(t *testing.T) {
	for _, given := range [][]api.Feed{nil, {}, {{Words: nil}}, {{Words: []uint32{}}}} {
		d, e := device.New(known(), given)
		if d == nil || e != api.OK {
			t.Fatalf("New with %v: error %d", given, e)
		}
		inputs(t, d, 0, 0, 0, api.ToldIndex, 0)
		feeds(t, d)
	}
}
