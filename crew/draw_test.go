package crew_test

import (
	"fmt"
	"math/rand/v2"
	"strings"
	"testing"

	"bulkhead/api"
)

// pair is a machine of two cores, whose partitions send to and receive from one another all the time; a third one has no window.
func pair(t *testing.T) recipe {
	t.Helper()
	return recipeOf(t, `
		memory 24
		major 500
		kernel 4 14
		channel queuing 1 2
		channel sampling 2
		partition one entry 0 action warm restarts 2 inputs 0 outputs 4
		  region 0 2 18 rwx
		  port 0 source
		  port 1 dest
		partition two entry 0 action cold restarts 15 inputs 0 outputs 0
		  region 0 1 20 rwx
		  region 16 1 1 rw
		  port 0 dest
		  port 1 source
		partition three entry 0 action halt restarts 0 inputs 0 outputs 0
		  region 0 1 2 rx
		  port 1 dest
		core
		  window none 18 82
		  window 0 200 100
		  window 0 10 90
		core
		  window 1 200 300
		end`,
		`begin: cyc r1
		hyp 5
		li r1, 0
		li r2, 30
		li r3, 1
		hyp 1
		li r1, 1
		li r2, 28
		hyp 2
		jmp begin`,
		`begin: li r1, 0
		li r2, 257
		hyp 2
		ld r4, r0, 257
		li r1, 1
		li r3, 1
		hyp 1
		addi r5, r5, 1
		li r6, 5
		bltu r5, r6, begin
		word 0`)
}

// drawn draws a machine that can be booted, by its text: what a core's partitions leave of the frame is nobody's, at the front or at the back.
func drawn(t *testing.T, r *rand.Rand) recipe {
	t.Helper()
	const major = 5000
	partitions, cores := 1+r.IntN(6), 1+r.IntN(api.MaxCores)
	channels, ports := drawnChannels(r, partitions)
	lines := []string{"memory 160", fmt.Sprintf("major %d", major), fmt.Sprintf("kernel %d 90", 24+r.IntN(3))}
	lines = append(lines, channels...)
	for p := range partitions {
		action := []string{"halt", "warm", "cold"}[r.IntN(3)]
		lines = append(lines, fmt.Sprintf("partition p%d entry 0 action %s restarts %d inputs 2 outputs %d", p, action, r.IntN(16), r.IntN(4)))
		lines = append(lines, fmt.Sprintf("region 0 4 %d rwx", 4*p), fmt.Sprintf("region 16 1 %d rw", 120+p))
		lines = append(lines, ports[p]...)
	}
	for core := range cores {
		lines = append(lines, "core")
		lines = append(lines, drawnWindows(r, major, core, cores, partitions)...)
	}
	var programs []string
	for p := range partitions {
		programs = append(programs, drawnProgram(r, len(ports[p])))
	}
	x := recipeOf(t, strings.Join(append(lines, "end"), "\n"), programs...)
	for p := range partitions {
		for epoch := range api.MaxEpochs {
			if r.IntN(2) == 0 {
				x.feeds = append(x.feeds, api.Feed{Partition: p, Epoch: epoch, Words: []uint32{r.Uint32(), r.Uint32()}[r.IntN(3)/2:]})
			}
		}
	}
	return x
}

// drawnChannels draws channels' lines, and each partition's lines of ports.
func drawnChannels(r *rand.Rand, partitions int) (channels []string, ports [][]string) {
	ports = make([][]string, partitions)
	for range r.IntN(9) {
		ends := 2
		line := fmt.Sprintf("channel queuing %d %d", 1+r.IntN(3), 1+r.IntN(3))
		if r.IntN(2) == 0 {
			line, ends = fmt.Sprintf("channel sampling %d", 1+r.IntN(3)), 2+r.IntN(api.MaxDests)
		}
		from, to := r.IntN(partitions), r.IntN(partitions)
		if len(ports[from])+len(ports[to])+ends > api.MaxPorts {
			continue
		}
		ports[from] = append(ports[from], fmt.Sprintf("port %d source", len(channels)))
		for range ends - 1 {
			one := []int{from, to, to}[r.IntN(3)]
			ports[one] = append(ports[one], fmt.Sprintf("port %d dest", len(channels)))
		}
		channels = append(channels, line)
	}
	return channels, ports
}

// drawnWindows draws those of a core: its partitions are all whose number leaves that of the core, now and then without a window.
func drawnWindows(r *rand.Rand, major, core, cores, partitions int) []string {
	var lines []string
	left := major
	for p := core; p < partitions; p += cores {
		for range r.IntN(3) {
			usable, slack := 1+r.IntN(300), api.LeastSlack+r.IntN(3)
			left -= usable + slack
			lines = append(lines, fmt.Sprintf("window %d %d %d", p, usable, slack))
		}
	}
	r.Shuffle(len(lines), func(a, b int) { lines[a], lines[b] = lines[b], lines[a] })
	rest := fmt.Sprintf("window none %d 90", left-90)
	if r.IntN(2) == 0 {
		return append([]string{rest}, lines...)
	}
	return append(lines, rest)
}

// drawnProgram draws one of pieces, round and round: calls of all kinds, with ports that are there mostly, and now and then a trap or a stop.
func drawnProgram(r *rand.Rand, ports int) string {
	pieces := []string{
		"st r4, r0, 60", "addi r4, r4, 3", "st r4, r0, 256", "cyc r4", "ld r5, r0, 256", "add r6, r6, r2",
		"li r1, PORT\nli r2, 256\nli r3, 1\nhyp 1", "li r1, PORT\nli r2, 257\nli r3, 2\nhyp 1", "li r1, PORT\nli r2, 256\nhyp 2", "li r1, PORT\nli r2, 60\nhyp 2",
		"li r1, PORT\nhyp 3", "li r1, PORT\nhyp 4", "mov r1, r4\nhyp 5", "hyp 6", "hyp 0",
	}
	seldom := []string{"hyp 7", "hyp 7", "hyp 9", "div r1, r1, r0", "ld r1, r0, 4000", "st r1, r0, -1", "word 0"}
	lines := []string{"begin: nop"}
	for range 3 + r.IntN(7) {
		lines = append(lines, strings.ReplaceAll(pieces[r.IntN(len(pieces))], "PORT", fmt.Sprint(r.IntN(ports+1))))
		if r.IntN(12) == 0 {
			lines = append(lines, seldom[r.IntN(len(seldom))])
		}
	}
	return strings.Join(append(lines, "jmp begin"), "\n")
}

// inTurn picks each core in its turn.
func inTurn(cores int) func() int {
	at := -1
	return func() int {
		at++
		return at % cores
	}
}

// orders are ways in which cores may be picked.
func orders(r *rand.Rand, cores int) map[string]func() int {
	up, down, long, left, fast := inTurn(cores), inTurn(cores), inTurn(400*cores), 0, 0
	return map[string]func() int{
		"in turn":             up,
		"the last one first":  func() int { return cores - 1 - down() },
		"one behind another":  func() int { return long() / 400 },
		"at random":           func() int { return r.IntN(cores) },
		"mostly core 0":       func() int { return r.IntN(cores) * (r.IntN(20) / 19) },
		"mostly the last one": func() int { return max(r.IntN(cores), cores-1-cores*(r.IntN(20)/19)) },
		"one ahead for a while": func() int {
			if left--; left < 0 {
				left, fast = r.IntN(60), r.IntN(cores)
			}
			return fast
		},
	}
}
