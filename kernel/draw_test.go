package kernel_test

import (
	"math/rand/v2"
	"slices"
	"testing"

	"bulkhead/admit"
	"bulkhead/api"
	"bulkhead/isa"
	"bulkhead/layout"
)

// drawn draws a machine that can be booted: cores, windows and partitions of any number, channels with both ends anywhere, programs that call much and trap now and then.
func drawn(t *testing.T, r *rand.Rand) recipe {
	t.Helper()
	var m recipe
	n := 1 + r.IntN(6)
	for p := range n {
		m.c.Partitions = append(m.c.Partitions, drawnPartition(r, string(rune('a'+p))))
	}
	drawChannels(r, &m.c)
	drawCores(r, &m.c)
	deal(r, &m.c)
	if e, where := admit.Check(m.c); e != api.OK {
		t.Fatalf("%+v: error %d, %v", m.c, e, where)
	}
	for p, x := range m.c.Partitions {
		m.programs = append(m.programs, drawnProgram(t, r, x))
		for epoch := range 4 {
			f := api.Feed{Partition: p, Epoch: epoch}
			for range r.IntN(x.Inputs + 1) {
				f.Words = append(f.Words, r.Uint32())
			}
			m.feeds = append(m.feeds, f)
		}
	}
	return m
}

// drawnPartition draws one whose program has room in pages that it may run, with words of its own elsewhere.
func drawnPartition(r *rand.Rand, name string) api.Partition {
	x := api.Partition{Name: name, Action: r.IntN(3), Restarts: r.IntN(3), Inputs: r.IntN(3), Outputs: r.IntN(3)}
	if r.IntN(3) > 0 {
		x.Restarts = 15
	}
	x.Regions = []api.Region{{Pages: 4, Rights: []int{5, 7}[r.IntN(2)]}, {Page: 20, Pages: 1 + r.IntN(3), Rights: 3}}
	if r.IntN(2) == 0 {
		x.Regions = append(x.Regions, api.Region{Page: 255, Pages: 1, Rights: 1 + r.IntN(7)})
	}
	r.Shuffle(len(x.Regions), func(i, j int) { x.Regions[i], x.Regions[j] = x.Regions[j], x.Regions[i] })
	return x
}

// drawChannels draws some, as far as there are ports for them.
func drawChannels(r *rand.Rand, c *api.Config) {
	add := func(port api.Port) bool {
		p := &c.Partitions[r.IntN(len(c.Partitions))]
		if len(p.Ports) == api.MaxPorts {
			return false
		}
		p.Ports = append(p.Ports, port)
		return true
	}
	for i := range r.IntN(7) {
		before := slices.Clone(c.Partitions)
		h, dests := api.Channel{Kind: api.KindQueuing, Words: 1 + r.IntN(3), Depth: 1 + r.IntN(3)}, 1
		if r.IntN(2) == 0 {
			h.Kind, h.Depth, dests = api.KindSampling, 0, 1+r.IntN(api.MaxDests)
		}
		ok := add(api.Port{Channel: i, Source: true})
		for range dests {
			ok = ok && add(api.Port{Channel: i})
		}
		if !ok {
			c.Partitions = before
			return
		}
		c.Channels = append(c.Channels, h)
	}
}

// drawCores gives each partition windows on one core, or none, and fills the frames of all.
func drawCores(r *rand.Rand, c *api.Config) {
	cores := 1 + r.IntN(api.MaxCores)
	c.Cores = make([][]api.Window, cores)
	for p := range c.Partitions {
		if r.IntN(8) == 0 {
			continue
		}
		core := &c.Cores[r.IntN(cores)]
		for range 1 + r.IntN(3) {
			*core = append(*core, api.Window{Partition: p, Usable: 1 + r.IntN(400), Slack: api.LeastSlack + r.IntN(9)})
		}
	}
	for i := range c.Cores {
		core := &c.Cores[i]
		if len(*core) == 0 || r.IntN(3) == 0 {
			*core = append(*core, api.Window{Partition: -1, Usable: 1 + r.IntN(90), Slack: api.LeastSlack})
		}
		*core = (*core)[:min(len(*core), api.MaxWindows)]
		r.Shuffle(len(*core), func(a, b int) { (*core)[a], (*core)[b] = (*core)[b], (*core)[a] })
		c.Major = max(c.Major, length(*core))
	}
	for _, core := range c.Cores {
		core[r.IntN(len(core))].Slack += c.Major - length(core)
	}
}

// length tells how long windows are together.
func length(windows []api.Window) int {
	sum := 0
	for _, w := range windows {
		sum += w.Usable + w.Slack
	}
	return sum
}

// deal deals frames to all regions and to the kernel, in any order.
func deal(r *rand.Rand, c *api.Config) {
	c.Room, _ = layout.Need(*c)
	c.Room += r.IntN(2)
	type owner struct{ first, many *int }
	owners := []owner{{&c.Kernel, &c.Room}}
	for p := range c.Partitions {
		for i := range c.Partitions[p].Regions {
			region := &c.Partitions[p].Regions[i]
			owners = append(owners, owner{&region.Frame, &region.Pages})
		}
	}
	r.Shuffle(len(owners), func(i, j int) { owners[i], owners[j] = owners[j], owners[i] })
	for _, o := range owners {
		*o.first = c.Frames
		c.Frames += *o.many
	}
}

// coder gathers a program.
type coder struct {
	t     *testing.T
	r     *rand.Rand
	quiet bool // it calls but rarely
	out   []uint32
}

// put adds an instruction.
func (d *coder) put(op, a, b, c, imm int) {
	d.t.Helper()
	w, e := isa.Encode(api.Ins{Op: op, A: a, B: b, C: c, Imm: imm})
	if e != api.OK {
		d.t.Fatalf("no instruction: %d %d %d %d %d", op, a, b, c, imm)
	}
	d.out = append(d.out, w)
}

// load puts a number into a register.
func (d *coder) load(a, n int) { d.put(api.OpLi, a, 0, 0, n) }

// word draws a word of the space: mostly one that may be written.
func (d *coder) word() int {
	switch d.r.IntN(30) {
	case 0:
		return []int{4080, 4095, 4096, 64, 63, 0, -1, 368}[d.r.IntN(8)]
	case 1, 2:
		return d.r.IntN(64)
	}
	return 320 + d.r.IntN(16)
}

// any draws a register.
func (d *coder) any() int { return 4 + d.r.IntN(12) }

// call adds one, with its registers.
func (d *coder) call(x api.Partition) {
	call := []int{0, 1, 1, 1, 1, 2, 2, 2, 2, 3, 4, 5, 5, 6}[d.r.IntN(14)]
	if d.r.IntN(20) == 0 {
		call = []int{api.CallStop, api.CallStop, api.CallEnd, -1}[d.r.IntN(4)]
	}
	switch call {
	case api.CallSend, api.CallReceive, api.CallStatus:
		d.load(1, d.r.IntN(len(x.Ports)+1)-d.r.IntN(30)/29)
		d.load(2, d.word())
		d.load(3, 1+d.r.IntN(2))
	case api.CallInput:
		d.load(1, d.r.IntN(3))
	case api.CallOutput:
		d.put(api.OpMov, 1, d.any(), 0, 0)
	}
	d.put(api.OpHyp, 0, 0, 0, call)
	// What was told is kept, so that it is seen later, too.
	d.put(api.OpAdd, d.any(), 1, 2, 0)
}

// piece adds a few instructions.
func (d *coder) piece(x api.Partition) {
	switch d.r.IntN(16) {
	case 0, 1:
		d.put(api.OpCyc, d.any(), 0, 0, 0)
	case 2, 3:
		d.put(api.OpSt, d.any(), 0, 0, d.word())
	case 4, 5:
		d.put(api.OpLd, d.any(), 0, 0, d.word())
	case 6:
		d.put(api.OpAddi, d.any(), d.any(), 0, d.r.IntN(9)-4)
	case 7:
		d.put(api.OpAdd+d.r.IntN(13), d.any(), d.any(), d.any(), 0) // now and then by 0
	case 8:
		d.put(api.OpBeq+d.r.IntN(5), d.any(), d.any(), 0, 1+d.r.IntN(2))
	case 9:
		if d.r.IntN(12) == 0 {
			d.out = append(d.out, d.r.Uint32())
		}
	default:
		if d.quiet && d.r.IntN(40) > 0 {
			d.put(api.OpXor, d.any(), d.any(), d.any(), 0)
			return
		}
		d.call(x)
	}
}

// drawnProgram draws one that begins again at its end; now and then there is none.
func drawnProgram(t *testing.T, r *rand.Rand, x api.Partition) []uint32 {
	d := &coder{t: t, r: r, quiet: r.IntN(4) == 0}
	if r.IntN(20) == 0 {
		return nil
	}
	for most := 8 + r.IntN(48); len(d.out) < most; {
		d.piece(x)
	}
	d.put(api.OpJmp, 0, 0, 0, -len(d.out))
	return d.out
}
