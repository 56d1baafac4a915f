package device_test

import (
	"math"
	"slices"
	"testing"

	"bulkhead/api"
	"bulkhead/device"
)

// P22.1: a configuration that does not hold together, whatever the feeds are.
func TestWrongConfig(t *testing.T) {
	for name, spoil := range map[string]func(c *api.Config){
		"nothing":              func(c *api.Config) { *c = api.Config{} },
		"no partition":         func(c *api.Config) { c.Partitions = nil },
		"no core":              func(c *api.Config) { c.Cores = nil },
		"Frames 9":             func(c *api.Config) { c.Frames = 9 },
		"Frames the greatest":  func(c *api.Config) { c.Frames = math.MaxInt },
		"Room 7":               func(c *api.Config) { c.Room = 7 },
		"Major 201":            func(c *api.Config) { c.Major = 201 },
		"Inputs 17":            func(c *api.Config) { c.Partitions[0].Inputs = 17 },
		"Inputs -1":            func(c *api.Config) { c.Partitions[1].Inputs = -1 },
		"Outputs 17":           func(c *api.Config) { c.Partitions[1].Outputs = 17 },
		"Outputs -1":           func(c *api.Config) { c.Partitions[0].Outputs = -1 },
		"two of one name":      func(c *api.Config) { c.Partitions[1].Name = "a" },
		"a frame of both":      func(c *api.Config) { c.Partitions[1].Regions[0].Frame = 0 },
		"a channel by itself":  func(c *api.Config) { c.Channels = []api.Channel{{Kind: api.KindSampling, Words: 1}} },
		"very many partitions": func(c *api.Config) { c.Partitions = make([]api.Partition, 100000) },
	} {
		c := known()
		spoil(&c)
		for _, given := range [][]api.Feed{nil, {feed(0, 3, 7)}, {feed(0, 3, 1, 2, 3)}, {feed(9, -1)}} {
			if d, e := device.New(c, given); d != nil || e != api.ErrDeviceConfig {
				t.Errorf("%s: New with %v: %v, error %d, want error %d", name, given, d, e, api.ErrDeviceConfig)
			}
		}
	}
}

// P22.1: one feed that may not be is found wherever it stands, with words and without.
func TestWrongFeeds(t *testing.T) {
	var wrong []api.Feed
	for _, n := range append(wrongNumbers, 2) {
		wrong = append(wrong, feed(n, 7), feed(n, 7, 1))
	}
	for _, n := range []int{-1, -2, math.MinInt, api.MaxEpoch, api.MaxEpoch + 1, 1 << 31, 1 << 32, math.MaxInt} {
		wrong = append(wrong, feed(0, n), feed(0, n, 1))
	}
	wrong = append(wrong,
		feed(0, 7, 1, 2, 3), feed(0, 7, make([]uint32, 16)...), feed(0, 7, make([]uint32, 17)...), feed(0, 7, make([]uint32, 100000)...),
		feed(1, 7, 1), feed(1, 7, 1, 2), feed(1, 7, make([]uint32, 17)...),
		feed(0, 1), feed(0, 1, 4), feed(1, 2), feed(0, 3), feed(0, 3, 7, 9))
	good := []api.Feed{feed(0, 1), feed(0, 3, 7, 9), feed(1, 2)}
	for _, f := range wrong {
		for at := range len(good) + 1 {
			refuses(t, known(), api.ErrDeviceFeed, slices.Insert(slices.Clone(good), at, f)...)
		}
	}
	devicesOf(t, known(), good...)
	refuses(t, open(), api.ErrDeviceFeed, feed(1, 7, make([]uint32, 17)...))
}

// P22.1: of one partition and one Epoch there may be one feed alone, be it without words, and be others between them.
func TestTwice(t *testing.T) {
	for _, one := range []api.Feed{feed(0, 5), feed(0, 5, 1), feed(0, 5, 1, 2)} {
		for _, other := range []api.Feed{feed(0, 5), feed(0, 5, 1), feed(0, 5, 2, 1)} {
			refuses(t, known(), api.ErrDeviceFeed, one, other)
			refuses(t, known(), api.ErrDeviceFeed, one, feed(1, 5), feed(0, 6), feed(0, 4, 8), other)
			refuses(t, known(), api.ErrDeviceFeed, one, feed(0, 4, 8), other, one)
		}
		devicesOf(t, known(), one, feed(1, 5), feed(0, 6, 3))
	}
}

// P22.2 to P22.5, R2: nil devices and a nil memory: ErrNil ahead of all others; without an error zero values.
func TestNil(t *testing.T) {
	var none *device.Devices
	d := devicesOf(t, known())
	m, before := marked(t)
	small := memory(t, 1)
	for _, p := range append(wrongNumbers, 0, 1, 2) {
		outputs(t, none, m, p, 0, api.ErrNil)
		outputs(t, d, nil, p, 0, api.ErrNil)
		outputs(t, none, nil, p, 0, api.ErrNil)
		outputs(t, none, small, p, 0, api.ErrNil)
		begins(t, none, m, api.ErrNil, p)
		begins(t, d, nil, api.ErrNil, p)
		begins(t, none, nil, api.ErrNil, 0, p)
		begins(t, none, small, api.ErrNil, p)
		inputs(t, none, p, 0, 0, api.ToldOK, 0)
		inputs(t, none, 0, p, 9, 0, 0)
	}
	begins(t, none, m, api.ErrNil)
	begins(t, d, nil, api.ErrNil)
	feeds(t, none)
	stays(t, m, before)
}

// P22.3, P22.4: a memory of another number of frames: ErrArg, of no partitions too, and nothing changes.
func TestOtherFrames(t *testing.T) {
	d := devicesOf(t, open())
	for _, frames := range []int{1, 5, 9, 11, 20, 1024} {
		m := memory(t, frames)
		m.Fill(0, frames*api.FrameWords, 3)
		before := m.Words()
		for p := -1; p <= 2; p++ {
			outputs(t, d, m, p, 0, api.ErrArg)
			begins(t, d, m, api.ErrArg, p)
		}
		begins(t, d, m, api.ErrArg)
		begins(t, d, m, api.ErrArg, 0, 1)
		stays(t, m, before)
	}
}

// P22.3, P22.4: no such partition: ErrArg; a Begin with one of those changes nothing, wherever it stands.
func TestNoPartition(t *testing.T) {
	d := devicesOf(t, open())
	for _, fill := range []uint32{0, 5} {
		m := memory(t, 10)
		m.Fill(0, 160, fill)
		before := m.Words()
		for _, p := range append(wrongNumbers, 2) {
			outputs(t, d, m, p, 0, api.ErrArg)
			begins(t, d, m, api.ErrArg, p)
			begins(t, d, m, api.ErrArg, p, 0, 1)
			begins(t, d, m, api.ErrArg, 0, p, 1)
			begins(t, d, m, api.ErrArg, 0, 1, p)
		}
		stays(t, m, before)
	}
}
