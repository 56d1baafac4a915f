package calls_test

import (
	"math/rand/v2"
	"slices"
	"sync"
	"testing"

	"bulkhead/admit"
	"bulkhead/api"
	"bulkhead/calls"
	"bulkhead/layout"
	"bulkhead/mem"
)

// dest is what a destination must hold.
type dest struct {
	p, port, at, first int
	held               [][]uint32
	fresh              bool
	lost               uint32
}

// pipe is what a channel must hold.
type pipe struct {
	api.Channel
	p, port, stage int
	staged         [][]uint32
	dests          []*dest
}

// samples tells whether it is a sampling channel.
func (h *pipe) samples() bool { return h.Kind == api.KindSampling }

// put notes a message that is sent, and tells what must be told.
func (h *pipe) put(message []uint32) uint32 {
	switch {
	case h.samples():
		h.staged = [][]uint32{message}
	case len(h.staged) == h.Depth:
		return api.ToldFull
	default:
		h.staged = append(h.staged, message)
	}
	return api.ToldOK
}

// turn notes a frame's end.
func (h *pipe) turn() {
	for _, x := range h.dests {
		if h.samples() {
			x.fresh = len(h.staged) > 0
			if x.fresh {
				x.held = h.staged
			}
			continue
		}
		for _, message := range h.staged {
			if len(x.held) < h.Depth {
				x.held = append(x.held, message)
			} else {
				x.lost++
			}
		}
	}
	h.staged = nil
}

// take notes that a destination has received, and tells what goes with the message.
func (h *pipe) take(x *dest) uint32 {
	if h.samples() {
		return number(x.fresh)
	}
	x.held = x.held[1:]
	x.first = (x.first + 1) % h.Depth
	if len(x.held) == 0 {
		x.first = 0
	}
	return uint32(len(x.held))
}

// number tells 1, if something is so.
func number(is bool) uint32 {
	if is {
		return 1
	}
	return 0
}

// padded tells a message's length and its words, with zeros behind them.
func (h *pipe) padded(message []uint32) []uint32 {
	out := make([]uint32, 1+h.Words)
	out[0] = uint32(len(message))
	copy(out[1:], message)
	return out
}

// lay writes what the channel's stage and ports must be into a list of all words.
func (h *pipe) lay(want []uint32) {
	at := want[h.stage:]
	clear(at[:layout.Stage(h.Channel)])
	at[0] = uint32(len(h.staged))
	for i, message := range h.staged {
		copy(at[1+i*(1+h.Words):], h.padded(message))
	}
	for _, x := range h.dests {
		at := want[x.at:]
		clear(at[:layout.Port(h.Channel)])
		if h.samples() {
			at[0], at[1] = uint32(len(x.held)), number(x.fresh && len(x.held) > 0)
			for _, message := range x.held {
				copy(at[2:], h.padded(message))
			}
			continue
		}
		at[0], at[1], at[2] = uint32(x.first), uint32(len(x.held)), x.lost
		for i, message := range x.held {
			copy(at[3+(x.first+i)%h.Depth*(1+h.Words):], h.padded(message))
		}
	}
}

// model is a configuration's calls by another way: all words of the memory as they must be, and what the channels hold.
type model struct {
	c     api.Config
	l     api.Layout
	feeds []api.Feed
	want  []uint32
	pipes []*pipe
}

// modelOf begins one, with words of any kind in the regions and wherever nobody looks.
func modelOf(t *testing.T, r *rand.Rand) *model {
	t.Helper()
	c := drawn(t, r)
	l, e := layout.Of(c)
	if e != api.OK {
		t.Fatalf("layout.Of: error %d", e)
	}
	o := &model{c: c, l: l, feeds: drawnFeeds(r, c), want: booted(t, c).Words()}
	for at := range o.want {
		whose, _ := layout.Owner(c, at)
		switch whose.Kind {
		case api.OwnTable, api.OwnState, api.OwnStage, api.OwnPort:
		default:
			o.want[at] = r.Uint32()
		}
	}
	for i, place := range l.Channels {
		h := &pipe{Channel: c.Channels[i], p: place.Partition, port: place.Port, stage: place.Stage}
		for _, x := range place.Dests {
			h.dests = append(h.dests, &dest{p: x.Partition, port: x.Port, at: x.At})
		}
		o.pipes = append(o.pipes, h)
	}
	return o
}

// memory makes one of the words as they must be.
func (o *model) memory(t *testing.T) *mem.Memory {
	t.Helper()
	m, e := mem.Of(o.want)
	if e != api.OK {
		t.Fatalf("mem.Of: error %d", e)
	}
	return m
}

// find tells the channel of a port, and its end, if it is a destination.
func (o *model) find(p int, port uint32) (*pipe, *dest) {
	for _, h := range o.pipes {
		if h.p == p && uint32(h.port) == port {
			return h, nil
		}
		for _, x := range h.dests {
			if x.p == p && uint32(x.port) == port {
				return h, x
			}
		}
	}
	return nil, nil
}

// place tells where a word of a partition's space lies, by its regions, if the right is given.
func (o *model) place(p int, at uint64, right int) (int, bool) {
	for _, g := range o.c.Partitions[p].Regions {
		from, to := uint64(g.Page)*16, uint64(g.Page+g.Pages)*16
		if at >= from && at < to && g.Rights&right != 0 {
			return g.Frame*16 + int(at-from), true
		}
	}
	return 0, false
}

// places tells where words of a partition's space lie, in their order.
func (o *model) places(p int, from uint32, many int, right int) ([]int, bool) {
	var out []int
	for i := range many {
		at, may := o.place(p, uint64(from)+uint64(i), right)
		if !may {
			return nil, false
		}
		out = append(out, at)
	}
	return out, true
}

// send, receive and status tell the registers behind these calls, and note what must have changed.
func (o *model) send(p int, in regs) regs {
	h, x := o.find(p, in[0])
	if h == nil {
		return regs{api.ToldPort}
	}
	if x != nil {
		return regs{api.ToldWay}
	}
	if in[2] == 0 || in[2] > uint32(h.Words) {
		return regs{api.ToldLong}
	}
	places, may := o.places(p, in[1], int(in[2]), api.RightRead)
	if !may {
		return regs{api.ToldFault}
	}
	var message []uint32
	for _, at := range places {
		message = append(message, o.want[at])
	}
	return regs{h.put(message)}
}

func (o *model) receive(p int, in regs) regs {
	h, x := o.find(p, in[0])
	if h == nil {
		return regs{api.ToldPort}
	}
	if x == nil {
		return regs{api.ToldWay}
	}
	if len(x.held) == 0 {
		return regs{api.ToldEmpty}
	}
	message := x.held[0]
	places, may := o.places(p, in[1], len(message), api.RightWrite)
	if !may {
		return regs{api.ToldFault}
	}
	for i, at := range places {
		o.want[at] = message[i]
	}
	return regs{api.ToldOK, uint32(len(message)), h.take(x)}
}

func (o *model) status(p int, in regs) regs {
	h, x := o.find(p, in[0])
	if h == nil {
		return regs{api.ToldPort}
	}
	if x == nil {
		return regs{api.ToldOK, uint32(len(h.staged))}
	}
	if h.samples() {
		return regs{api.ToldOK, uint32(len(x.held)), number(x.fresh && len(x.held) > 0)}
	}
	return regs{api.ToldOK, uint32(len(x.held)), x.lost}
}

// input tells what a device tells.
func (o *model) input(p, epoch int, in regs) regs {
	for _, f := range o.feeds {
		if f.Partition == p && f.Epoch == epoch && in[0] < uint32(len(f.Words)) {
			return regs{api.ToldOK, f.Words[in[0]]}
		}
	}
	return regs{api.ToldIndex}
}

// do tells the registers behind a call, and the word that is told beside them.
func (o *model) do(p, epoch, call int, in regs) (out regs, word uint32, told bool) {
	state := o.want[o.l.Partitions[p].State:]
	switch call {
	case api.CallYield:
		state[0] = api.StateYielded
	case api.CallSend:
		out = o.send(p, in)
	case api.CallReceive:
		out = o.receive(p, in)
	case api.CallStatus:
		out = o.status(p, in)
	case api.CallInput:
		out = o.input(p, epoch, in)
	case api.CallOutput:
		if int(state[4]) == o.c.Partitions[p].Outputs {
			return regs{api.ToldFull}, 0, false
		}
		state[4]++
		return regs{}, in[0], true
	case api.CallWho:
		out = regs{0, uint32(p), uint32(epoch)}
	default:
		state[0] = api.StateHalted
	}
	for _, h := range o.pipes {
		h.lay(o.want)
	}
	return out, 0, false
}

// turn notes a frame's end, begin a frame's beginning.
func (o *model) turn() {
	for _, h := range o.pipes {
		h.turn()
		h.lay(o.want)
	}
}

func (o *model) begin(partitions []int) {
	for _, p := range partitions {
		o.want[o.l.Partitions[p].State+4] = 0
	}
}

// drawn draws a configuration that holds together: regions of any rights, some next to one another, whose frames lie anywhere; channels with both ends anywhere.
func drawn(t *testing.T, r *rand.Rand) api.Config {
	t.Helper()
	c := api.Config{Major: 200, Cores: [][]api.Window{{{Partition: -1, Usable: 100, Slack: 100}}}}
	n := 1 + r.IntN(api.MaxPartitions)
	for p := range n {
		c.Partitions = append(c.Partitions, drawnPartition(r, string(rune('a'+p))))
	}
	add := func(port api.Port) {
		p := &c.Partitions[r.IntN(n)]
		for len(p.Ports) == api.MaxPorts {
			p = &c.Partitions[r.IntN(n)]
		}
		p.Ports = slices.Insert(p.Ports, r.IntN(len(p.Ports)+1), port)
	}
	for i, left := 0, min(n*api.MaxPorts, 40); left >= 1+api.MaxDests; i++ {
		h, dests := api.Channel{Kind: api.KindQueuing, Words: 1 + r.IntN(5), Depth: 1 + r.IntN(3)}, 1
		if r.IntN(2) == 0 {
			h.Kind, h.Depth = api.KindSampling, 0
			dests += r.IntN(api.MaxDests)
		}
		if r.IntN(4) == 0 {
			h.Words = api.MaxMessage
		}
		c.Channels = append(c.Channels, h)
		add(api.Port{Channel: i, Source: true})
		for range dests {
			add(api.Port{Channel: i})
		}
		left -= 1 + dests
		if len(c.Channels) == api.MaxChannels {
			break
		}
	}
	deal(r, &c)
	if e, where := admit.Check(c); e != api.OK {
		t.Fatalf("%+v: error %d, %v", c, e, where)
	}
	return c
}

// drawnPartition draws one with a few short regions, in the middle of the space or at one of its ends.
func drawnPartition(r *rand.Rand, name string) api.Partition {
	x := api.Partition{Name: name, Action: r.IntN(3), Restarts: r.IntN(16), Inputs: r.IntN(4), Outputs: r.IntN(4)}
	at := []int{0, 0, 14, 100, 251}[r.IntN(5)]
	for range 1 + r.IntN(api.MaxRegions) {
		pages := 1 + r.IntN(2)
		if at+pages > api.Pages {
			break
		}
		x.Regions = append(x.Regions, api.Region{Page: at, Pages: pages, Rights: []int{1, 2, 3, 3, 4, 7}[r.IntN(6)]})
		at += pages + max(r.IntN(4)-2, 0)
	}
	r.Shuffle(len(x.Regions), func(i, j int) { x.Regions[i], x.Regions[j] = x.Regions[j], x.Regions[i] })
	run := &x.Regions[0]
	run.Rights |= api.RightRun
	x.Entry = run.Page * api.FrameWords
	return x
}

// deal deals frames to all regions and to the kernel, in any order.
func deal(r *rand.Rand, c *api.Config) {
	need, _ := layout.Need(*c)
	c.Room = need + r.IntN(2)
	type owner struct{ first, many *int }
	owners := []owner{{&c.Kernel, &c.Room}}
	for p := range c.Partitions {
		for i := range c.Partitions[p].Regions {
			region := &c.Partitions[p].Regions[i]
			owners = append(owners, owner{&region.Frame, &region.Pages})
		}
	}
	r.Shuffle(len(owners), func(i, j int) { owners[i], owners[j] = owners[j], owners[i] })
	for _, o := range owners {
		*o.first = c.Frames
		c.Frames += *o.many
	}
}

// drawnFeeds draws what devices tell in the first frames, in any order.
func drawnFeeds(r *rand.Rand, c api.Config) []api.Feed {
	var feeds []api.Feed
	for p, x := range c.Partitions {
		for epoch := range 4 {
			f := api.Feed{Partition: p, Epoch: epoch}
			for range r.IntN(x.Inputs + 1) {
				f.Words = append(f.Words, r.Uint32())
			}
			feeds = append(feeds, f)
		}
	}
	r.Shuffle(len(feeds), func(i, j int) { feeds[i], feeds[j] = feeds[j], feeds[i] })
	return feeds
}

// drawnAt draws a word of a partition's space: mostly around the edges of its regions.
func drawnAt(r *rand.Rand, x api.Partition) uint32 {
	g := x.Regions[r.IntN(len(x.Regions))]
	switch r.IntN(12) {
	case 0:
		return []uint32{0, 4095, 4096, 4097, 1 << 31, 1<<32 - 1, 1<<32 - 8, r.Uint32()}[r.IntN(8)]
	case 1, 2:
		return uint32(16*(g.Page+g.Pages) - 8 + r.IntN(9))
	default:
		return uint32(16*g.Page + r.IntN(16*g.Pages))
	}
}

// drawnCall draws a call and its registers, so that much of it goes well.
func drawnCall(r *rand.Rand, c api.Config, p int) (call int, in regs) {
	x := c.Partitions[p]
	call = []int{0, 1, 1, 1, 2, 2, 2, 2, 3, 4, 5, 6, 7}[r.IntN(13)]
	in = regs{r.Uint32N(uint32(len(x.Ports)) + 1), drawnAt(r, x), 1 + r.Uint32N(3)}
	switch r.IntN(20) {
	case 0:
		in[0] = []uint32{8, 16, 1 << 31, 1<<32 - 1, 1<<32 - 2, 1 << 16}[r.IntN(6)]
	case 1:
		in[2] = []uint32{0, 4, 5, 6, 16, 17, 1 << 31, 1<<32 - 1, 1<<32 - 15}[r.IntN(9)]
	}
	return call, in
}

// act does one thing, and holds what is answered against the model.
func act(t *testing.T, r *rand.Rand, s *calls.Calls, m *mem.Memory, o *model, told map[[2]int]int) {
	t.Helper()
	switch r.IntN(30) {
	case 0:
		turns(t, s, m, api.OK)
		o.turn()
		return
	case 1, 2:
		some := r.Perm(len(o.c.Partitions))[:r.IntN(len(o.c.Partitions)+1)]
		begins(t, s, m, api.OK, some...)
		o.begin(some)
		return
	}
	p, epoch := r.IntN(len(o.c.Partitions)), r.IntN(5)
	call, in := drawnCall(r, o.c, p)
	out, word, is := o.do(p, epoch, call, in)
	tells(t, s, m, p, epoch, call, in, out, word, is)
	told[[2]int{call, int(out[0])}]++
}

// P25.3, P25.4, P25.6, P25.7: calls in any order on any configuration, held against a model, with all words of the memory.
func TestModel(t *testing.T) {
	told := map[[2]int]int{}
	for seed := range uint64(150) {
		r := rand.New(rand.NewPCG(seed, 252))
		o := modelOf(t, r)
		s, m := callsOf(t, o.c, o.feeds), o.memory(t)
		for range 300 {
			act(t, r, s, m, o, told)
			has(t, m, o.want)
			if t.Failed() {
				t.Fatalf("seed %d: %+v", seed, o.c)
			}
		}
	}
	// All that can be told must have been told, or the calls were drawn too narrowly.
	for call, many := range map[int]string{api.CallYield: "0", api.CallSend: "012345", api.CallReceive: "01246", api.CallStatus: "01", api.CallInput: "07", api.CallOutput: "05", api.CallWho: "0", api.CallStop: "0"} {
		for _, n := range many {
			if told[[2]int{call, int(n - '0')}] < 20 {
				t.Errorf("the call %d has told %c %d times", call, n, told[[2]int{call, int(n - '0')}])
			}
		}
	}
}

// P25.2: the locks of any configuration, as the layout has them.
func TestModelLocks(t *testing.T) {
	for seed := range uint64(60) {
		r := rand.New(rand.NewPCG(seed, 253))
		o := modelOf(t, r)
		s := callsOf(t, o.c, nil)
		for p, x := range o.c.Partitions {
			for port := range uint32(api.MaxPorts + 1) {
				for call := range api.CallEnd {
					want := []int{o.l.Partitions[p].Lock}
					if (call == api.CallSend || call == api.CallReceive || call == api.CallStatus) && int(port) < len(x.Ports) {
						want = append(want, o.l.Channels[x.Ports[port].Channel].Lock)
					}
					locks(t, s, p, call, regs{port, r.Uint32(), r.Uint32()}, api.OK, want...)
				}
			}
		}
	}
}

// owns tells of each word whether what a partition is told may hang on it.
func owns(c api.Config, p int) []bool {
	out := make([]bool, c.Frames*api.FrameWords)
	for at := range out {
		out[at] = own(c, p, at)
	}
	return out
}

// own tells it of one: its regions, its state, its tables, what its sources have laid down, its own ports.
func own(c api.Config, p, at int) bool {
	whose, _ := layout.Owner(c, at)
	switch whose.Kind {
	case api.OwnRegion, api.OwnState, api.OwnTable, api.OwnPort:
		return whose.Index == p
	case api.OwnStage:
		return slices.Contains(c.Partitions[p].Ports, api.Port{Channel: whose.Index, Source: true})
	}
	return false
}

// P25.6: with all words changed that are not its own a partition is told the same, and the same words are written; no others.
func TestHangsOnItsOwnAlone(t *testing.T) {
	for seed := range uint64(100) {
		r := rand.New(rand.NewPCG(seed, 254))
		o := modelOf(t, r)
		s, m := callsOf(t, o.c, o.feeds), o.memory(t)
		told := map[[2]int]int{}
		for range r.IntN(120) {
			act(t, r, s, m, o, told)
		}
		p := r.IntN(len(o.c.Partitions))
		mine := owns(o.c, p)
		other := m.Clone()
		for at, is := range mine {
			if !is {
				other.Write(at, r.Uint32())
			}
		}
		for range 40 {
			call, in := drawnCall(r, o.c, p)
			before, apart := m.Words(), other.Words()
			x, word, is, e := s.Do(m, p, 2, call, context(in))
			y, another, also, f := s.Do(other, p, 2, call, context(in))
			if x != y || word != another || is != also || e != f || e != api.OK {
				t.Fatalf("seed %d: Do(%d, 2, %d, %v): %v and %v, %d and %d, errors %d and %d", seed, p, call, in, x, y, word, another, e, f)
			}
			now, then := m.Words(), other.Words()
			for at := range now {
				if mine[at] && now[at] != then[at] || !mine[at] && (now[at] != before[at] || then[at] != apart[at]) {
					t.Fatalf("seed %d: Do(%d, 2, %d, %v): the word %d is %x and %x", seed, p, call, in, at, now[at], then[at])
				}
			}
		}
	}
}

// P25.6: what CallSend tells with ToldFull or ToldOK hangs on what was sent since the last Turn alone, whatever came ahead of it and whatever the destinations do.
func TestSourceHearsNothing(t *testing.T) {
	for seed := range uint64(60) {
		r := rand.New(rand.NewPCG(seed, 255))
		o := modelOf(t, r)
		s, busy := callsOf(t, o.c, o.feeds), o.memory(t)
		fresh := busy.Clone()
		told := map[[2]int]int{}
		for range r.IntN(300) {
			act(t, r, s, busy, o, told)
		}
		turns(t, s, busy, api.OK)
		for range 100 {
			p := r.IntN(len(o.c.Partitions))
			call, in := drawnCall(r, o.c, p)
			if call != api.CallSend {
				s.Do(busy, p, 0, call, context(in))
				continue
			}
			x, _, _, e := s.Do(busy, p, 0, call, context(in))
			y, _, _, f := s.Do(fresh, p, 0, call, context(in))
			if x != y || e != f || e != api.OK {
				t.Fatalf("seed %d: partition %d sends %v: %v and %v, errors %d and %d", seed, p, in, x, y, e, f)
			}
		}
	}
}

// P25.7: what is taken with ToldOK from one space is laid down in another one behind the Turn, word by word, over the edge of two regions whose frames lie apart.
func TestThereAndBack(t *testing.T) {
	c := known()
	c.Frames, c.Kernel, c.Room = 40, 10, 20
	c.Channels[0].Words = 16
	c.Partitions[0].Regions = []api.Region{{Page: 0, Pages: 1, Frame: 3, Rights: 5}, {Page: 1, Pages: 1, Frame: 0, Rights: 1}}
	c.Partitions[2].Regions = []api.Region{{Page: 255, Pages: 1, Frame: 2, Rights: 2}, {Page: 254, Pages: 1, Frame: 5, Rights: 6}, {Page: 0, Pages: 1, Frame: 7, Rights: 7}}
	s := callsOf(t, c, nil)
	program := make([]uint32, 32)
	for i := range program {
		program[i] = 0x9000 + uint32(i)
	}
	for from := range uint32(17) {
		m := booted(t, c, program)
		want := m.Words()
		does(t, s, m, 0, 0, api.CallSend, regs{0, from, 16}, regs{})
		does(t, s, m, 2, 0, api.CallReceive, regs{0, 4064 + from, 0}, regs{api.ToldEmpty})
		turns(t, s, m, api.OK)
		does(t, s, m, 2, 1, api.CallReceive, regs{0, 4081, 0}, regs{api.ToldFault})
		does(t, s, m, 2, 1, api.CallReceive, regs{0, 4063, 0}, regs{api.ToldFault})
		does(t, s, m, 2, 1, api.CallReceive, regs{0, 4064 + from, 0}, regs{0, 16, 1})
		for i := range 16 {
			at := int(from) + i
			want[[]int{5, 2}[at/16]*16+at%16] = program[at]
		}
		now := m.Words()
		if !slices.Equal(now[:10*16], want[:10*16]) {
			t.Errorf("from %d: the words are %x, want %x", from, now[:10*16], want[:10*16])
		}
	}
	m := booted(t, c, program)
	does(t, s, m, 0, 0, api.CallSend, regs{0, 17, 16}, regs{api.ToldFault})
}

// R7: all partitions call at one time, each of them one by one: their words lie apart. What comes of it is what comes of one behind the other.
func TestSideBySide(t *testing.T) {
	for seed := range uint64(40) {
		r := rand.New(rand.NewPCG(seed, 256))
		o := modelOf(t, r)
		s, m := callsOf(t, o.c, o.feeds), o.memory(t)
		apart := m.Clone()
		for epoch := range 4 {
			var all sync.WaitGroup
			for p := range o.c.Partitions {
				mine := func(m *mem.Memory) []api.Context {
					r := rand.New(rand.NewPCG(seed, uint64(8*epoch+p)))
					s.Begin(m, []int{p})
					var out []api.Context
					for range 40 {
						call, in := drawnCall(r, o.c, p)
						s.Locks(p, call, context(in))
						x, _, _, _ := s.Do(m, p, epoch, call, context(in))
						out = append(out, x)
					}
					return out
				}
				want := mine(apart)
				all.Go(func() {
					if got := mine(m); !slices.Equal(got, want) {
						t.Errorf("seed %d: partition %d is told other things beside others", seed, p)
					}
				})
			}
			all.Wait()
			turns(t, s, m, api.OK)
			turns(t, s, apart, api.OK)
			has(t, m, apart.Words())
		}
		if t.Failed() {
			t.Fatalf("seed %d: %+v", seed, o.c)
		}
	}
}
