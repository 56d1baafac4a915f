package solo_test

import (
	"fmt"
	"math/rand/v2"
	"strings"
	"testing"

	"bulkhead/admit"
	"bulkhead/api"
	"bulkhead/layout"
)

// drawn draws a machine that can be booted: any number of cores, windows, partitions and channels, and programs that call much, and trap now and then.
func drawn(t *testing.T, r *rand.Rand) recipe {
	t.Helper()
	m := recipe{c: drawnConfig(r)}
	if e, where := admit.Check(m.c); e != api.OK {
		t.Fatalf("%+v: error %d, %v", m.c, e, where)
	}
	for p, x := range m.c.Partitions {
		m.programs = append(m.programs, drawnProgram(t, r, x))
		m.feeds = append(m.feeds, drawnFeeds(r, p, x)...)
	}
	return m
}

// drawnFeeds draws what a partition's device tells it in the frames that are played.
func drawnFeeds(r *rand.Rand, p int, x api.Partition) []api.Feed {
	var out []api.Feed
	for epoch := range api.MaxEpochs {
		f := api.Feed{Partition: p, Epoch: epoch}
		for range r.IntN(x.Inputs + 1) {
			f.Words = append(f.Words, r.Uint32())
		}
		out = append(out, f)
	}
	return out
}

// drawnConfig draws one that holds together. Each partition's program lies in its first eight pages, words that it may write in the page 20.
func drawnConfig(r *rand.Rand) api.Config {
	var c api.Config
	for p := range 1 + r.IntN(api.MaxPartitions) {
		x := api.Partition{
			Name: fmt.Sprint("p", p), Entry: r.IntN(3), Action: r.IntN(3), Restarts: r.IntN(api.MaxRestarts + 1), Inputs: r.IntN(3), Outputs: r.IntN(4),
			Regions: []api.Region{{Pages: 8, Rights: api.RightRead | api.RightRun | r.IntN(2)*api.RightWrite}, {Page: 20, Pages: 1, Rights: api.RightRead | api.RightWrite}},
		}
		c.Partitions = append(c.Partitions, x)
	}
	for range r.IntN(13) {
		drawChannel(r, &c)
	}
	drawWindows(r, &c)
	c.Room, _ = layout.Need(c)
	kernel := r.IntN(len(c.Partitions) + 1)
	for p := range len(c.Partitions) + 1 {
		if p == kernel {
			c.Kernel = c.Frames
			c.Frames += c.Room
		}
		if p == len(c.Partitions) {
			break
		}
		for i := range c.Partitions[p].Regions {
			region := &c.Partitions[p].Regions[i]
			region.Frame = c.Frames
			c.Frames += region.Pages + r.IntN(2)
		}
	}
	return c
}

// drawChannel adds one, if those who are drawn for it have ports left.
func drawChannel(r *rand.Rand, c *api.Config) {
	ends := 2
	h := api.Channel{Kind: api.KindQueuing, Words: 1 + r.IntN(3), Depth: 1 + r.IntN(3)}
	if r.IntN(2) == 0 {
		h, ends = api.Channel{Kind: api.KindSampling, Words: h.Words}, 1+1+r.IntN(api.MaxDests)
	}
	who := make([]int, ends)
	for i := range who {
		who[i] = r.IntN(len(c.Partitions))
		if len(c.Partitions[who[i]].Ports)+ends > api.MaxPorts {
			return
		}
	}
	for i, p := range who {
		ports := &c.Partitions[p].Ports
		*ports = append(*ports, api.Port{Channel: len(c.Channels), Source: i == 0})
	}
	c.Channels = append(c.Channels, h)
}

// drawWindows gives each partition windows on one core, now and then none, and fills the frames.
func drawWindows(r *rand.Rand, c *api.Config) {
	c.Cores = make([][]api.Window, 1+r.IntN(api.MaxCores))
	lengths := make([]int, len(c.Cores))
	add := func(core, p int) {
		w := api.Window{Partition: p, Usable: 1 + r.IntN(400), Slack: api.LeastSlack + r.IntN(3)}
		if len(c.Cores[core]) < api.MaxWindows {
			c.Cores[core] = append(c.Cores[core], w)
			lengths[core] += w.Usable + w.Slack
			c.Major = max(c.Major, lengths[core])
		}
	}
	for core := range c.Cores {
		for p := range c.Partitions {
			if p%len(c.Cores) == core && r.IntN(9) > 0 {
				for range 1 + r.IntN(3) {
					add(core, p)
				}
			}
		}
		if len(c.Cores[core]) == 0 || r.IntN(3) == 0 {
			add(core, -1)
		}
	}
	for core, windows := range c.Cores {
		r.Shuffle(len(windows), func(a, b int) { windows[a], windows[b] = windows[b], windows[a] })
		windows[r.IntN(len(windows))].Slack += c.Major - lengths[core]
	}
}

// drawnProgram draws one that begins again at its end; now and then there is none.
func drawnProgram(t *testing.T, r *rand.Rand, x api.Partition) []uint32 {
	t.Helper()
	if r.IntN(25) == 0 {
		return nil
	}
	lines := []string{"nop", "nop"} // so that it may begin behind them
	for most := 10 + r.IntN(90); len(lines) < most; {
		lines = append(lines, drawnLines(r, len(x.Ports))...)
	}
	return words(t, strings.Join(append(lines, fmt.Sprintf("jmp -%d", len(lines))), "\n"))
}

// drawnLines draws a few that belong together.
func drawnLines(r *rand.Rand, ports int) []string {
	a, b, c := 4+r.IntN(8), 4+r.IntN(8), 4+r.IntN(8)
	word := 320 + r.IntN(16)
	if r.IntN(50) == 0 {
		word = []int{0, 127, 128, 319, 336, 4095, 4096, -1}[r.IntN(8)]
	}
	// What a call tells is kept, so that it is seen later, too.
	call := func(n int, ahead ...string) []string {
		return append(ahead, fmt.Sprintf("hyp %d", n), fmt.Sprintf("add r%d, r%d, r1", a, b), fmt.Sprintf("xor r%d, r2, r3", c))
	}
	which := r.IntN(max(ports, 1)) + r.IntN(20)/19
	port := []string{fmt.Sprintf("li r1, %d", which), fmt.Sprintf("li r2, %d", word), fmt.Sprintf("li r3, %d", 1+r.IntN(2))}
	switch r.IntN(18) {
	case 0, 1:
		return []string{fmt.Sprintf("cyc r%d", a)}
	case 2, 3:
		return []string{fmt.Sprintf("st r%d, r0, %d", a, word)}
	case 4, 5:
		return []string{fmt.Sprintf("ld r%d, r0, %d", a, word)}
	case 6:
		return []string{fmt.Sprintf("bltu r%d, r%d, 2", a, b), fmt.Sprintf("addi r%d, r%d, %d", b, c, r.IntN(99))}
	case 7, 8, 9:
		return call(api.CallSend, port...)
	case 10, 11, 12:
		return call(api.CallReceive, port...)
	case 13:
		return call(api.CallStatus, port...)
	case 14:
		return call(api.CallInput, fmt.Sprintf("li r1, %d", r.IntN(3)))
	case 15:
		return call(api.CallOutput, fmt.Sprintf("mov r1, r%d", a))
	case 16:
		return call([]int{api.CallYield, api.CallWho}[r.IntN(2)])
	}
	if r.IntN(3) > 0 {
		return []string{fmt.Sprintf("slt r%d, r%d, r%d", a, b, c)}
	}
	return [][]string{{"hyp 7"}, {"hyp 7"}, {"hyp 8"}, {"word 5"}, {"jr r9"}, {"div r5, r6, r7"}, {"rem r4, r4, r0"}, {"nop"}}[r.IntN(8)]
}
