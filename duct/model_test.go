package duct_test

import (
	"math/rand/v2"
	"slices"
	"sync"
	"testing"

	"bulkhead/api"
	"bulkhead/duct"
	"bulkhead/layout"
	"bulkhead/mem"
)

// dest is what a destination must hold.
type dest struct {
	p, port, at, first int
	held               [][]uint32
	fresh              bool
	lost               uint32
}

// pipe is what a channel must hold.
type pipe struct {
	api.Channel
	p, port, stage int
	staged         [][]uint32
	dests          []*dest
}

// samples tells whether it is a sampling channel.
func (h *pipe) samples() bool { return h.Kind == api.KindSampling }

// put notes a message that is sent, and tells what must be told.
func (h *pipe) put(message []uint32) int {
	switch {
	case len(message) < 1 || len(message) > h.Words:
		return api.ToldLong
	case h.samples():
		h.staged = [][]uint32{message}
	case len(h.staged) == h.Depth:
		return api.ToldFull
	default:
		h.staged = append(h.staged, message)
	}
	return api.ToldOK
}

// turn notes a frame's end.
func (h *pipe) turn() {
	for _, x := range h.dests {
		if h.samples() {
			x.fresh = len(h.staged) > 0
			if x.fresh {
				x.held = h.staged
			}
			continue
		}
		for _, message := range h.staged {
			if len(x.held) < h.Depth {
				x.held = append(x.held, message)
			} else {
				x.lost++
			}
		}
	}
	h.staged = nil
}

// take notes that a destination has received.
func (h *pipe) take(x *dest) {
	if h.samples() || len(x.held) == 0 {
		return
	}
	x.held = x.held[1:]
	x.first = (x.first + 1) % h.Depth
	if len(x.held) == 0 {
		x.first = 0
	}
}

// number tells 1, if something is so.
func number(is bool) uint32 {
	if is {
		return 1
	}
	return 0
}

// padded tells a message's length and its words, with zeros behind them.
func (h *pipe) padded(message []uint32) []uint32 {
	out := make([]uint32, 1+h.Words)
	out[0] = uint32(len(message))
	copy(out[1:], message)
	return out
}

// lay writes what the channel's stage and ports must be into a list of all words.
func (h *pipe) lay(want []uint32) {
	at := want[h.stage:]
	clear(at[:layout.Stage(h.Channel)])
	at[0] = uint32(len(h.staged))
	for i, message := range h.staged {
		copy(at[1+i*(1+h.Words):], h.padded(message))
	}
	for _, x := range h.dests {
		at := want[x.at:]
		clear(at[:layout.Port(h.Channel)])
		if h.samples() {
			at[0], at[1] = uint32(len(x.held)), number(x.fresh && len(x.held) > 0)
			for _, message := range x.held {
				copy(at[2:], h.padded(message))
			}
			continue
		}
		at[0], at[1], at[2] = uint32(x.first), uint32(len(x.held)), x.lost
		for i, message := range x.held {
			copy(at[3+(x.first+i)%h.Depth*(1+h.Words):], h.padded(message))
		}
	}
}

// drawn draws a configuration that holds together: up to 8 partitions, 16 channels, and both ends anywhere.
func drawn(r *rand.Rand) api.Config {
	c := api.Config{Major: 200, Cores: [][]api.Window{{{Partition: -1, Usable: 100, Slack: 100}}}}
	n := 1 + r.IntN(api.MaxPartitions)
	for p := range n {
		c.Partitions = append(c.Partitions, api.Partition{Name: string(rune('a' + p)), Regions: []api.Region{{Page: 0, Pages: 1, Frame: p, Rights: 7}}})
	}
	free := n * api.MaxPorts
	add := func(port api.Port) {
		for {
			p := &c.Partitions[r.IntN(n)]
			if len(p.Ports) < api.MaxPorts {
				p.Ports = slices.Insert(p.Ports, r.IntN(len(p.Ports)+1), port)
				free--
				return
			}
		}
	}
	for i := range r.IntN(api.MaxChannels + 1) {
		dests := 1
		h := api.Channel{Kind: api.KindQueuing, Words: 1 + r.IntN(api.MaxMessage), Depth: 1 + r.IntN(api.MaxDepth)}
		if r.IntN(2) == 0 {
			h.Kind, h.Depth = api.KindSampling, 0
			dests += r.IntN(api.MaxDests)
		}
		if free < 1+dests {
			break
		}
		c.Channels = append(c.Channels, h)
		add(api.Port{Channel: i, Source: true})
		for range dests {
			add(api.Port{Channel: i})
		}
	}
	c.Kernel = n + r.IntN(3)
	c.Room, _ = layout.Need(c)
	c.Frames = c.Kernel + c.Room + r.IntN(3)
	return c
}

// pipesOf tells the channels of a configuration, all of them empty.
func pipesOf(t *testing.T, c api.Config) []*pipe {
	t.Helper()
	l, e := layout.Of(c)
	if e != api.OK {
		t.Fatalf("layout.Of: error %d", e)
	}
	var out []*pipe
	for i, place := range l.Channels {
		h := &pipe{Channel: c.Channels[i], p: place.Partition, port: place.Port, stage: place.Stage}
		for _, x := range place.Dests {
			h.dests = append(h.dests, &dest{p: x.Partition, port: x.Port, at: x.At})
		}
		out = append(out, h)
	}
	return out
}

// letter draws a message for a channel; one that may not be is asked for seldom.
func letter(r *rand.Rand, words int) []uint32 {
	n := 1 + r.IntN(words)
	if r.IntN(8) == 0 {
		n = []int{0, words + 1, words + 5}[r.IntN(3)]
	}
	message := make([]uint32, n)
	for i := range message {
		message[i] = r.Uint32() & r.Uint32() & 3
	}
	return message
}

// ask holds what all ports are told against what they must be told.
func ask(t *testing.T, d *duct.Ducts, m *mem.Memory, pipes []*pipe) {
	t.Helper()
	for i, h := range pipes {
		rooms(t, d, h.p, h.port, h.Words, api.ToldOK)
		stands(t, d, m, h.p, h.port, api.ToldOK, uint32(len(h.staged)), 0, api.OK)
		looks(t, d, m, h.p, h.port, api.ToldWay, nil, 0, api.OK)
		for _, x := range h.dests {
			rooms(t, d, x.p, x.port, 0, api.ToldWay)
			sends(t, d, m, x.p, x.port, of(1), api.ToldWay, api.OK)
			if n, _, there := d.Lock(x.p, x.port); n != i || !there {
				t.Errorf("Lock(%d, %d): %d, %v, want %d", x.p, x.port, n, there, i)
			}
			fresh, three, left := number(x.fresh && len(x.held) > 0), x.lost, uint32(len(x.held)-1)
			if h.samples() {
				three, left = fresh, fresh
			}
			stands(t, d, m, x.p, x.port, api.ToldOK, uint32(len(x.held)), three, api.OK)
			if len(x.held) == 0 {
				looks(t, d, m, x.p, x.port, api.ToldEmpty, nil, 0, api.OK)
				continue
			}
			looks(t, d, m, x.p, x.port, api.ToldOK, x.held[0], left, api.OK)
		}
	}
}

// P21.2 to P21.10: calls in any order on any configuration, held against a model, with all words of the memory: what is no stage and no port is marked, and stays.
func TestModel(t *testing.T) {
	for seed := range uint64(150) {
		r := rand.New(rand.NewPCG(seed, 21))
		c := drawn(r)
		d := ductsOf(t, c)
		pipes := pipesOf(t, c)
		want := make([]uint32, c.Frames*api.FrameWords)
		for i := range want {
			want[i] = r.Uint32()
		}
		for _, h := range pipes {
			h.lay(want)
		}
		m, e := mem.Of(want)
		if e != api.OK {
			t.Fatalf("mem.Of: error %d", e)
		}
		for range 120 {
			act(t, r, d, m, pipes)
			for _, h := range pipes {
				h.lay(want)
			}
			stays(t, m, want)
			ask(t, d, m, pipes)
			if t.Failed() {
				t.Fatalf("seed %d: %+v", seed, c)
			}
		}
	}
}

// act does one thing, and notes what must come of it.
func act(t *testing.T, r *rand.Rand, d *duct.Ducts, m *mem.Memory, pipes []*pipe) {
	t.Helper()
	if len(pipes) == 0 || r.IntN(6) == 0 {
		turns(t, d, m, api.OK)
		for _, h := range pipes {
			h.turn()
		}
		return
	}
	h := pipes[r.IntN(len(pipes))]
	if r.IntN(3) == 0 {
		x := h.dests[r.IntN(len(h.dests))]
		took(t, d, m, x.p, x.port, api.OK)
		h.take(x)
		return
	}
	message := letter(r, h.Words)
	sends(t, d, m, h.p, h.port, message, h.put(message), api.OK)
}

// P21.10, sampling: told by the answers alone: the last message between the last Turn with one and the Turn ahead of that, fresh till the next Turn.
func TestSampledAlone(t *testing.T) {
	for seed := range uint64(100) {
		r := rand.New(rand.NewPCG(seed, 2110))
		d, m := begun(t)
		var sent, told []uint32
		fresh := uint32(0)
		for range 200 {
			switch r.IntN(4) {
			case 0:
				turns(t, d, m, api.OK)
				fresh = number(sent != nil)
				if sent != nil {
					told, sent = sent, nil
				}
			case 1:
				took(t, d, m, 1+r.IntN(2), 0, api.OK)
			case 2:
				message := letter(r, 2)
				if x, _ := d.Send(m, 0, 0, message); x == api.ToldOK {
					sent = message
				}
			default:
				want := api.ToldOK
				if told == nil {
					want = api.ToldEmpty
				}
				looks(t, d, m, 1+r.IntN(2), 0, want, told, fresh, api.OK)
			}
		}
		if t.Failed() {
			t.Fatalf("seed %d", seed)
		}
	}
}

// P21.10, queuing: told by the answers alone: what was sent with ToldOK, in its order, less what found a full port at its Turn.
func TestQueuedAlone(t *testing.T) {
	for seed := range uint64(100) {
		r := rand.New(rand.NewPCG(seed, 2111))
		d, m := begun(t)
		var sent, row [][]uint32
		for n := range uint32(300) {
			switch r.IntN(4) {
			case 0:
				turns(t, d, m, api.OK)
				row = append(row, sent[:min(len(sent), 2-len(row))]...)
				sent = nil
			case 1, 2:
				if x, _ := d.Send(m, 0, 1, of(n)); x == api.ToldOK {
					sent = append(sent, of(n))
				}
			default:
				told, message, _, _ := d.Look(m, 1, 1)
				if told == api.ToldEmpty && len(row) == 0 {
					continue
				}
				if len(row) == 0 || told != api.ToldOK || !slices.Equal(message, row[0]) {
					t.Fatalf("seed %d: told %d, %d, want %d", seed, told, message, row)
				}
				took(t, d, m, 1, 1, api.OK)
				row = row[1:]
			}
		}
	}
}

// P21.10: what a source is told hangs on what it has sent since the last Turn alone, whatever came ahead of that and whatever its destinations do.
func TestSourceHearsNothing(t *testing.T) {
	for seed := range uint64(60) {
		r := rand.New(rand.NewPCG(seed, 2112))
		c := drawn(r)
		d, pipes := ductsOf(t, c), pipesOf(t, c)
		if len(pipes) == 0 {
			continue
		}
		h := pipes[r.IntN(len(pipes))]
		busy, fresh := memory(t, c.Frames), memory(t, c.Frames)
		for range r.IntN(200) {
			act(t, r, d, busy, pipes)
		}
		turns(t, d, busy, api.OK)
		for range 3 * api.MaxDepth {
			message := letter(r, h.Words)
			one, _ := d.Send(busy, h.p, h.port, message)
			other, _ := d.Send(fresh, h.p, h.port, message)
			if one != other {
				t.Errorf("seed %d: Send told %d and %d", seed, one, other)
			}
			for _, x := range h.dests {
				took(t, d, busy, x.p, x.port, api.OK)
			}
			told, two, three, _ := d.Status(busy, h.p, h.port)
			stands(t, d, fresh, h.p, h.port, told, two, three, api.OK)
		}
		if t.Failed() {
			t.Fatalf("seed %d", seed)
		}
	}
}

// R7: one object, one memory: a goroutine for each channel's source and one for each destination, whose words lie apart, then a Turn while others write elsewhere.
func TestSideBySide(t *testing.T) {
	d, m := begun(t)
	for frame := range uint32(100) {
		var all sync.WaitGroup
		all.Go(func() { d.Send(m, 0, 0, of(frame, 1)) })
		all.Go(func() { d.Send(m, 0, 1, of(frame)); d.Status(m, 0, 1) })
		all.Go(func() { d.Look(m, 1, 0); d.Took(m, 1, 0) })
		all.Go(func() { d.Status(m, 2, 0); d.Lock(2, 0); d.Room(2, 0) })
		all.Go(func() { d.Look(m, 1, 1); d.Took(m, 1, 1) })
		all.Wait()
		all.Go(func() { d.Turn(m) })
		for p := range 3 {
			all.Go(func() { m.Fill(16*p, 16, frame) })
		}
		all.Go(func() { m.Fill(48, 76, frame); m.Fill(138, 2, frame); m.Fill(152, 104, frame) })
		all.Wait()
		looks(t, d, m, 1, 0, api.ToldOK, of(frame, 1), 1, api.OK)
		looks(t, d, m, 2, 0, api.ToldOK, of(frame, 1), 1, api.OK)
		looks(t, d, m, 1, 1, api.ToldOK, of(frame), 0, api.OK)
	}
}
