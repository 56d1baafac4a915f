package duct_test

import (
	"math"
	"slices"
	"testing"

	"bulkhead/api"
	"bulkhead/duct"
	"bulkhead/mem"
)

// known is the configuration of the chapter's examples. Its channels lie so: the lock of channel 0 at 122, its stage at 124 (4 words), its ports at 128 and 133 (5 each); the lock of channel 1 at 138, its stage at 140 (5), its port at 145 (7).
func known() api.Config {
	room := func(frame int) []api.Region { return []api.Region{{Page: 0, Pages: 1, Frame: frame, Rights: 7}} }
	return api.Config{
		Frames: 16, Major: 200, Kernel: 3, Room: 13,
		Cores:    [][]api.Window{{{Partition: -1, Usable: 100, Slack: 100}}},
		Channels: []api.Channel{{Kind: api.KindSampling, Words: 2}, {Kind: api.KindQueuing, Words: 1, Depth: 2}},
		Partitions: []api.Partition{
			{Name: "a", Regions: room(0), Ports: []api.Port{{Channel: 0, Source: true}, {Channel: 1, Source: true}}},
			{Name: "b", Regions: room(1), Ports: []api.Port{{Channel: 0}, {Channel: 1}}},
			{Name: "c", Regions: room(2), Ports: []api.Port{{Channel: 0}}},
		},
	}
}

// numbers that no partition and no port has, of whatever configuration.
var wrongNumbers = []int{-1, -2, 8, 9, 256, 1 << 31, 1 << 32, 1<<32 + 1, math.MinInt, math.MinInt + 1, math.MaxInt, math.MaxInt - 1}

// ductsOf makes a configuration's ducts.
func ductsOf(t *testing.T, c api.Config) *duct.Ducts {
	t.Helper()
	d, e := duct.New(c)
	if d == nil || e != api.OK {
		t.Fatalf("New: %v, error %d", d, e)
	}
	return d
}

// memory makes one of so many frames of zeros.
func memory(t *testing.T, frames int) *mem.Memory {
	t.Helper()
	m, e := mem.New(frames)
	if e != api.OK {
		t.Fatalf("mem.New(%d): error %d", frames, e)
	}
	return m
}

// begun makes the ducts of the chapter's examples, and a memory whose stages and ports are empty.
func begun(t *testing.T) (*duct.Ducts, *mem.Memory) {
	t.Helper()
	return ductsOf(t, known()), memory(t, 16)
}

// locks asks for a port's channel and lock.
func locks(t *testing.T, d *duct.Ducts, p, port, channel, at int, there bool) {
	t.Helper()
	if n, place, is := d.Lock(p, port); n != channel || place != at || is != there {
		t.Errorf("Lock(%d, %d): %d, %d, %v, want %d, %d, %v", p, port, n, place, is, channel, at, there)
	}
}

// rooms asks for the most words that a port may send.
func rooms(t *testing.T, d *duct.Ducts, p, port, room, told int) {
	t.Helper()
	if n, x := d.Room(p, port); n != room || x != told {
		t.Errorf("Room(%d, %d): %d, told %d, want %d, told %d", p, port, n, x, room, told)
	}
}

// sends sends a message, and asks for the answer.
func sends(t *testing.T, d *duct.Ducts, m *mem.Memory, p, port int, message []uint32, told int, e api.Errno) {
	t.Helper()
	if x, f := d.Send(m, p, port, message); x != told || f != e {
		t.Errorf("Send(%d, %d, %x): told %d, error %d, want told %d, error %d", p, port, message, x, f, told, e)
	}
}

// looks asks for what a port would receive.
func looks(t *testing.T, d *duct.Ducts, m *mem.Memory, p, port, told int, message []uint32, beside uint32, e api.Errno) {
	t.Helper()
	if x, l, b, f := d.Look(m, p, port); x != told || !slices.Equal(l, message) || b != beside || f != e {
		t.Errorf("Look(%d, %d): told %d, %x, %d, error %d, want told %d, %x, %d, error %d", p, port, x, l, b, f, told, message, beside, e)
	}
}

// took notes that a port has received, and asks for the error.
func took(t *testing.T, d *duct.Ducts, m *mem.Memory, p, port int, e api.Errno) {
	t.Helper()
	if f := d.Took(m, p, port); f != e {
		t.Errorf("Took(%d, %d): error %d, want %d", p, port, f, e)
	}
}

// stands asks how a port stands.
func stands(t *testing.T, d *duct.Ducts, m *mem.Memory, p, port, told int, two, three uint32, e api.Errno) {
	t.Helper()
	if x, a, b, f := d.Status(m, p, port); x != told || a != two || b != three || f != e {
		t.Errorf("Status(%d, %d): told %d, %d, %d, error %d, want told %d, %d, %d, error %d", p, port, x, a, b, f, told, two, three, e)
	}
}

// turns takes all messages on, and asks for the error.
func turns(t *testing.T, d *duct.Ducts, m *mem.Memory, e api.Errno) {
	t.Helper()
	if f := d.Turn(m); f != e {
		t.Errorf("Turn: error %d, want %d", f, e)
	}
}

// stays asks that a memory has these words.
func stays(t *testing.T, m *mem.Memory, want []uint32) {
	t.Helper()
	for at, w := range m.Words() {
		if at >= len(want) || w != want[at] {
			t.Errorf("the word %d is %x", at, w)
			return
		}
	}
}

// lies asks for the words from a place on.
func lies(t *testing.T, m *mem.Memory, at int, want ...uint32) {
	t.Helper()
	if got, e := m.Take(at, len(want)); e != api.OK || !slices.Equal(got, want) {
		t.Errorf("the words from %d on: %x, error %d, want %x", at, got, e, want)
	}
}

// of makes a message.
func of(words ...uint32) []uint32 { return words }

// P21.2, P21.3: the first two rows of the chapter's examples.
func TestPorts(t *testing.T) {
	d, _ := begun(t)
	locks(t, d, 0, 0, 0, 122, true)
	locks(t, d, 1, 0, 0, 122, true)
	locks(t, d, 2, 0, 0, 122, true)
	locks(t, d, 0, 1, 1, 138, true)
	locks(t, d, 1, 1, 1, 138, true)
	locks(t, d, 1, 2, 0, 0, false)
	locks(t, d, 3, 0, 0, 0, false)
	rooms(t, d, 0, 0, 2, api.ToldOK)
	rooms(t, d, 0, 1, 1, api.ToldOK)
	rooms(t, d, 1, 0, 0, api.ToldWay)
	rooms(t, d, 1, 1, 0, api.ToldWay)
	rooms(t, d, 0, 2, 0, api.ToldPort)
	rooms(t, d, -1, 0, 0, api.ToldPort)
}

// P21.4 to P21.8: the chapter's other examples, with the words that lie there.
func TestExamples(t *testing.T) {
	d, m := begun(t)
	sends(t, d, m, 0, 0, of(7, 8), api.ToldOK, api.OK)
	sends(t, d, m, 0, 0, nil, api.ToldLong, api.OK)
	sends(t, d, m, 0, 0, of(1, 2, 3), api.ToldLong, api.OK)
	sends(t, d, m, 1, 0, of(1), api.ToldWay, api.OK)
	sends(t, d, m, 2, 1, of(1), api.ToldPort, api.OK)
	looks(t, d, m, 1, 0, api.ToldEmpty, nil, 0, api.OK)
	stands(t, d, m, 1, 0, api.ToldOK, 0, 0, api.OK)
	stands(t, d, m, 0, 0, api.ToldOK, 1, 0, api.OK)
	looks(t, d, m, 0, 0, api.ToldWay, nil, 0, api.OK)
	sends(t, d, m, 0, 1, of(4), api.ToldOK, api.OK)
	sends(t, d, m, 0, 1, of(5), api.ToldOK, api.OK)
	sends(t, d, m, 0, 1, of(6), api.ToldFull, api.OK)
	stands(t, d, m, 0, 1, api.ToldOK, 2, 0, api.OK)
	lies(t, m, 122, 0, 0, 1, 2, 7, 8, 0, 0, 0, 0, 0, 0, 0, 0, 0, 0, 0, 0, 2, 1, 4, 1, 5, 0, 0, 0, 0, 0, 0, 0, 0)
	turns(t, d, m, api.OK)
	lies(t, m, 122, 0, 0, 0, 0, 0, 0, 1, 1, 2, 7, 8, 1, 1, 2, 7, 8, 0, 0, 0, 0, 0, 0, 0, 0, 2, 0, 1, 4, 1, 5, 0)
	looks(t, d, m, 1, 0, api.ToldOK, of(7, 8), 1, api.OK)
	looks(t, d, m, 2, 0, api.ToldOK, of(7, 8), 1, api.OK)
	looks(t, d, m, 1, 1, api.ToldOK, of(4), 1, api.OK)
	stands(t, d, m, 1, 1, api.ToldOK, 2, 0, api.OK)
	stands(t, d, m, 1, 0, api.ToldOK, 1, 1, api.OK)
	took(t, d, m, 1, 1, api.OK)
	looks(t, d, m, 1, 1, api.ToldOK, of(5), 0, api.OK)
	took(t, d, m, 1, 0, api.OK)
	looks(t, d, m, 1, 0, api.ToldOK, of(7, 8), 1, api.OK)
	sends(t, d, m, 0, 1, of(9), api.ToldOK, api.OK)
	sends(t, d, m, 0, 1, of(10), api.ToldOK, api.OK)
	turns(t, d, m, api.OK)
	stands(t, d, m, 1, 1, api.ToldOK, 2, 1, api.OK)
	stands(t, d, m, 1, 0, api.ToldOK, 1, 0, api.OK)
	looks(t, d, m, 2, 0, api.ToldOK, of(7, 8), 0, api.OK)
	lies(t, m, 122, 0, 0, 0, 0, 0, 0, 1, 0, 2, 7, 8, 1, 0, 2, 7, 8, 0, 0, 0, 0, 0, 0, 0, 1, 2, 1, 1, 9, 1, 5, 0)
}

// P21.1: a configuration that does not hold together has no ducts; one without channels has.
func TestNew(t *testing.T) {
	for name, spoil := range map[string]func(*api.Config){
		"no frames":              func(c *api.Config) { c.Frames = 0 },
		"a frame too few":        func(c *api.Config) { c.Frames = 15 },
		"windows that fill less": func(c *api.Config) { c.Major = 201 },
		"a name twice":           func(c *api.Config) { c.Partitions[1].Name = "a" },
		"no core":                func(c *api.Config) { c.Cores = nil },
		"a port of no channel":   func(c *api.Config) { c.Partitions[2].Ports[0].Channel = 2 },
		"a second source":        func(c *api.Config) { c.Partitions[1].Ports[1].Source = true },
		"no source":              func(c *api.Config) { c.Partitions[0].Ports[1].Source = false },
		"no destination":         func(c *api.Config) { c.Partitions[1].Ports = c.Partitions[1].Ports[:1] },
		"two of a queue":         func(c *api.Config) { c.Partitions[2].Ports[0].Channel = 1 },
		"no such kind":           func(c *api.Config) { c.Channels[0].Kind = 3 },
		"a message too long":     func(c *api.Config) { c.Channels[0].Words = 17 },
		"a queue of no depth":    func(c *api.Config) { c.Channels[1].Depth = 0 },
		"a room too small":       func(c *api.Config) { c.Room = 12 },
		"no partition":           func(c *api.Config) { c.Partitions = nil },
		"nothing":                func(c *api.Config) { *c = api.Config{} },
	} {
		c := known()
		spoil(&c)
		if d, e := duct.New(c); d != nil || e != api.ErrDuctConfig {
			t.Errorf("%s: %v, error %d", name, d, e)
		}
	}
	c := known()
	c.Channels = nil
	for p := range c.Partitions {
		c.Partitions[p].Ports = nil
	}
	d, m := ductsOf(t, c), memory(t, c.Frames)
	locks(t, d, 0, 0, 0, 0, false)
	rooms(t, d, 0, 0, 0, api.ToldPort)
	sends(t, d, m, 0, 0, of(1), api.ToldPort, api.OK)
	turns(t, d, m, api.OK)
	stays(t, m, make([]uint32, c.Frames*api.FrameWords))
}

// P21.4: the edges of a message's length, of both kinds: the most words, and one more.
func TestLengths(t *testing.T) {
	for words := 1; words <= api.MaxMessage; words++ {
		c := known()
		c.Frames, c.Room = 40, 37
		c.Channels[0].Words, c.Channels[1].Words = words, words
		d, m := ductsOf(t, c), memory(t, c.Frames)
		for port := range 2 {
			rooms(t, d, 0, port, words, api.ToldOK)
			before := m.Words()
			for _, n := range []int{0, words + 1, words + 2, 17, 300} {
				sends(t, d, m, 0, port, make([]uint32, n), api.ToldLong, api.OK)
			}
			stays(t, m, before)
			message := slices.Repeat(of(0xffffffff), words)
			sends(t, d, m, 0, port, message, api.ToldOK, api.OK)
			turns(t, d, m, api.OK)
			looks(t, d, m, 1, port, api.ToldOK, message, uint32(1-port), api.OK)
		}
	}
}

// P21.4, P21.5, P21.7, P21.8: the edges of a depth: its stage is full with so many messages, its port loses what comes behind so many.
func TestDepths(t *testing.T) {
	for depth := 1; depth <= api.MaxDepth; depth++ {
		c := known()
		c.Frames, c.Room = 40, 37
		c.Channels[1].Depth = depth
		d, m := ductsOf(t, c), memory(t, c.Frames)
		for i := range uint32(depth) {
			sends(t, d, m, 0, 1, of(i), api.ToldOK, api.OK)
			stands(t, d, m, 0, 1, api.ToldOK, i+1, 0, api.OK)
		}
		before := m.Words()
		sends(t, d, m, 0, 1, of(99), api.ToldFull, api.OK)
		sends(t, d, m, 0, 1, of(99, 99), api.ToldLong, api.OK)
		stays(t, m, before)
		turns(t, d, m, api.OK)
		stands(t, d, m, 0, 1, api.ToldOK, 0, 0, api.OK)
		for i := range uint32(depth) {
			looks(t, d, m, 1, 1, api.ToldOK, of(i), uint32(depth)-1-i, api.OK)
			stands(t, d, m, 1, 1, api.ToldOK, uint32(depth)-i, 0, api.OK)
			took(t, d, m, 1, 1, api.OK)
		}
		before = m.Words()
		looks(t, d, m, 1, 1, api.ToldEmpty, nil, 0, api.OK)
		took(t, d, m, 1, 1, api.OK)
		stays(t, m, before)
		for turn := range uint32(3) {
			for i := range uint32(depth) {
				sends(t, d, m, 0, 1, of(i), api.ToldOK, api.OK)
			}
			turns(t, d, m, api.OK)
			stands(t, d, m, 1, 1, api.ToldOK, uint32(depth), turn*uint32(depth), api.OK)
		}
	}
}

// P21.8: the count of lost messages stays at its greatest.
func TestLostStays(t *testing.T) {
	d, m := begun(t)
	m.Lay(145, of(1, 2, math.MaxUint32-1, 1, 5, 1, 6))
	for _, lost := range of(math.MaxUint32, math.MaxUint32) {
		sends(t, d, m, 0, 1, of(1), api.ToldOK, api.OK)
		turns(t, d, m, api.OK)
		stands(t, d, m, 1, 1, api.ToldOK, 2, lost, api.OK)
	}
	looks(t, d, m, 1, 1, api.ToldOK, of(6), 1, api.OK)
}

// A partition may have both ends of a channel, and several of one.
func TestOwnEnds(t *testing.T) {
	c := known()
	c.Partitions = c.Partitions[:1]
	c.Partitions[0].Ports = []api.Port{{Channel: 1}, {Channel: 0}, {Channel: 0, Source: true}, {Channel: 0}, {Channel: 1, Source: true}}
	d, m := ductsOf(t, c), memory(t, c.Frames)
	sends(t, d, m, 0, 2, of(3), api.ToldOK, api.OK)
	sends(t, d, m, 0, 4, of(4), api.ToldOK, api.OK)
	sends(t, d, m, 0, 0, of(4), api.ToldWay, api.OK)
	turns(t, d, m, api.OK)
	looks(t, d, m, 0, 0, api.ToldOK, of(4), 0, api.OK)
	looks(t, d, m, 0, 1, api.ToldOK, of(3), 1, api.OK)
	looks(t, d, m, 0, 3, api.ToldOK, of(3), 1, api.OK)
	looks(t, d, m, 0, 4, api.ToldWay, nil, 0, api.OK)
}

// R5: what is handed in is neither changed nor kept, what is answered is new memory.
func TestNothingShared(t *testing.T) {
	c := known()
	d, m := ductsOf(t, c), memory(t, 16)
	c.Channels[0], c.Channels[1] = api.Channel{}, api.Channel{}
	for _, p := range c.Partitions {
		clear(p.Ports)
	}
	locks(t, d, 1, 1, 1, 138, true)
	rooms(t, d, 0, 1, 1, api.ToldOK)
	room := of(7, 8, 9, 10)
	sends(t, d, m, 0, 0, room[:2], api.ToldOK, api.OK)
	sends(t, d, m, 0, 1, room[2:3], api.ToldOK, api.OK)
	if !slices.Equal(room, of(7, 8, 9, 10)) {
		t.Errorf("the message's room: %d", room)
	}
	clear(room)
	turns(t, d, m, api.OK)
	for port, want := range [][]uint32{of(7, 8), of(9)} {
		_, message, _, _ := d.Look(m, 1, port)
		_, other, _, _ := d.Look(m, 1, port)
		clear(message[:cap(message)])
		if !slices.Equal(other, want) {
			t.Errorf("another answer: %d, want %d", other, want)
		}
		looks(t, d, m, 1, port, api.ToldOK, want, 1-uint32(port), api.OK)
	}
}
