package trial_test

import (
	"fmt"
	"math/rand/v2"
	"strings"
	"testing"

	"bulkhead/api"
)

// drawn draws a configuration that holds together, by its text: what a core's partitions leave of the frame is nobody's, at the front or at the back.
func drawn(t *testing.T, r *rand.Rand) api.Config {
	t.Helper()
	const major = 5000
	partitions, cores := 1+r.IntN(6), 1+r.IntN(api.MaxCores)
	channels, ports := drawnChannels(r, partitions)
	lines := []string{"memory 160", fmt.Sprintf("major %d", major), fmt.Sprintf("kernel %d 90", 24+r.IntN(3))}
	lines = append(lines, channels...)
	for p := range partitions {
		action := []string{"halt", "warm", "cold"}[r.IntN(3)]
		lines = append(lines, fmt.Sprintf("partition p%d entry 0 action %s restarts %d inputs 2 outputs %d", p, action, r.IntN(16), r.IntN(4)))
		lines = append(lines, fmt.Sprintf("region 0 4 %d rwx", 4*p), fmt.Sprintf("region 16 1 %d rw", 120+p))
		lines = append(lines, ports[p]...)
	}
	for core := range cores {
		lines = append(lines, "core")
		lines = append(lines, drawnWindows(r, major, core, cores, partitions)...)
	}
	return configOf(t, strings.Join(append(lines, "end"), "\n"))
}

// drawnChannels draws channels' lines, and each partition's lines of ports.
func drawnChannels(r *rand.Rand, partitions int) (channels []string, ports [][]string) {
	ports = make([][]string, partitions)
	for range r.IntN(8) {
		ends := 2
		line := fmt.Sprintf("channel queuing %d %d", 1+r.IntN(3), 1+r.IntN(3))
		if r.IntN(2) == 0 {
			line, ends = fmt.Sprintf("channel sampling %d", 1+r.IntN(3)), 2+r.IntN(api.MaxDests)
		}
		from, to := r.IntN(partitions), r.IntN(partitions)
		if len(ports[from])+len(ports[to])+ends > api.MaxPorts {
			continue
		}
		ports[from] = append(ports[from], fmt.Sprintf("port %d source", len(channels)))
		for range ends - 1 {
			one := []int{from, to, to}[r.IntN(3)]
			ports[one] = append(ports[one], fmt.Sprintf("port %d dest", len(channels)))
		}
		channels = append(channels, line)
	}
	return channels, ports
}

// drawnWindows draws those of a core: its partitions are all whose number leaves that of the core, now and then without a window.
func drawnWindows(r *rand.Rand, major, core, cores, partitions int) []string {
	var lines []string
	left := major
	for p := core; p < partitions; p += cores {
		for range min(r.IntN(4), api.MaxWindows-1-len(lines)) {
			usable, slack := 1+r.IntN(300), api.LeastSlack+r.IntN(3)
			left -= usable + slack
			lines = append(lines, fmt.Sprintf("window %d %d %d", p, usable, slack))
		}
	}
	r.Shuffle(len(lines), func(a, b int) { lines[a], lines[b] = lines[b], lines[a] })
	rest := fmt.Sprintf("window none %d 90", left-90)
	if r.IntN(2) == 0 {
		return append([]string{rest}, lines...)
	}
	return append(lines, rest)
}

// drawnProgram draws one of pieces, round and round: what its ports are for, calls of all kinds, and now and then a trap or a stop.
func drawnProgram(t *testing.T, r *rand.Rand, ports []api.Port) []uint32 {
	t.Helper()
	pieces := []string{
		"st r4, r0, 60", "addi r4, r4, 3", "st r4, r0, 256", "cyc r4", "ld r5, r0, 256", "add r6, r6, r2",
		"li r1, PORT\nli r2, 257\nli r3, 2\nhyp 1", "li r1, PORT\nli r2, 60\nhyp 2",
		"li r1, PORT\nhyp 3", "li r1, PORT\nhyp 4", "mov r1, r4\nhyp 5", "hyp 6", "hyp 0",
	}
	seldom := []string{"hyp 7", "hyp 7", "hyp 9", "div r1, r1, r0", "ld r1, r0, 4000", "st r1, r0, -1", "word 0"}
	lines := []string{"begin: nop"}
	for q, port := range ports {
		if r.IntN(3) == 0 {
			continue
		}
		if port.Source {
			lines = append(lines, fmt.Sprintf("cyc r4\nst r4, r0, 256\nli r1, %d\nli r2, 256\nli r3, 1\nhyp 1", q))
		} else {
			lines = append(lines, fmt.Sprintf("li r1, %d\nli r2, 257\nhyp 2\nld r5, r0, 257", q))
		}
	}
	for range 1 + r.IntN(7) {
		lines = append(lines, strings.ReplaceAll(pieces[r.IntN(len(pieces))], "PORT", fmt.Sprint(r.IntN(len(ports)+1))))
		if r.IntN(12) == 0 {
			lines = append(lines, seldom[r.IntN(len(seldom))])
		}
	}
	return programOf(t, strings.Join(append(lines, "jmp begin"), "\n"))
}

// drawnPlay draws programs and feeds; it has no picks as yet.
func drawnPlay(t *testing.T, r *rand.Rand, c api.Config) (x api.Play) {
	t.Helper()
	for p, part := range c.Partitions {
		x.Programs = append(x.Programs, drawnProgram(t, r, part.Ports))
		for epoch := range 6 {
			if r.IntN(2) == 0 {
				x.Feeds = append(x.Feeds, feed(p, epoch, []uint32{r.Uint32(), r.Uint32()}[r.IntN(3)/2:]...))
			}
		}
	}
	return x
}

// tellers are all that can tell p something, by a model of its own: who is in is asked whom its ports hear, till nobody comes any more.
func tellers(c api.Config, p int) []bool {
	in := make([]bool, len(c.Partitions))
	in[p] = true
	for again := true; again; {
		again = false
		for q, part := range c.Partitions {
			for _, port := range part.Ports {
				if port.Source && !in[q] && heard(c, in, port.Channel) {
					in[q], again = true, true
				}
			}
		}
	}
	return in
}

// heard tells whether one of these partitions receives on a channel.
func heard(c api.Config, in []bool, channel int) bool {
	for q, part := range c.Partitions {
		for _, port := range part.Ports {
			if in[q] && !port.Source && port.Channel == channel {
				return true
			}
		}
	}
	return false
}

// mixed takes from a play what the partitions of a list are given, of the others from another play, as it happens; what it is made of is told in another order.
func mixed(r *rand.Rand, x, other api.Play, keep []bool) (out api.Play) {
	for q, is := range keep {
		from := other
		if is || r.IntN(4) == 0 {
			from = x
		}
		out.Programs = append(out.Programs, from.Programs[q])
		for _, f := range from.Feeds {
			if f.Partition == q {
				out.Feeds = append(out.Feeds, f)
			}
		}
	}
	r.Shuffle(len(out.Feeds), func(a, b int) { out.Feeds[a], out.Feeds[b] = out.Feeds[b], out.Feeds[a] })
	return out
}

// drawnPair draws two plays that must look alike to a partition, with picks of all kinds.
func drawnPair(t *testing.T, r *rand.Rand, most int) (c api.Config, p int, one, another api.Play) {
	t.Helper()
	c = drawn(t, r)
	p = r.IntN(len(c.Partitions))
	one = drawnPlay(t, r, c)
	another = mixed(r, one, drawnPlay(t, r, c), tellers(c, p))
	one.Picks = drawnPicks(r, len(c.Cores), most)
	another.Picks = drawnPicks(r, len(c.Cores), most)
	return c, p, one, another
}

// drawnPicks draws as many as there may be at the most, in one of the orders.
func drawnPicks(r *rand.Rand, cores, most int) (picks []int) {
	pick := drawnOrder(r, cores)
	for range r.IntN(most) {
		picks = append(picks, pick())
	}
	return picks
}

// drawnOrder draws a way in which cores may be picked.
func drawnOrder(r *rand.Rand, cores int) func() int {
	at, left, fast := -1, 0, 0
	orders := []func() int{
		func() int { at++; return at % cores },
		func() int { at++; return cores - 1 - at%cores },
		func() int { at++; return at / 40 % cores },
		func() int { return r.IntN(cores) },
		func() int { return r.IntN(cores) * (r.IntN(20) / 19) },
		func() int {
			if left--; left < 0 {
				left, fast = r.IntN(60), r.IntN(cores)
			}
			return fast
		},
	}
	return orders[r.IntN(len(orders))]
}
