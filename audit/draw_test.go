package audit_test

import (
	"fmt"
	"math/rand/v2"
	"strings"
	"testing"

	"bulkhead/api"
	"bulkhead/asm"
)

// drawn draws a machine that can be booted, by its text: the kernel has frames enough in the midst of all, and what a core's partitions leave of the frame is nobody's.
func drawn(t *testing.T, r *rand.Rand) recipe {
	t.Helper()
	const major = 3600
	partitions, cores := 1+r.IntN(5), 1+r.IntN(api.MaxCores)
	channels, ports := drawnChannels(r, partitions)
	lines := []string{"memory 140", fmt.Sprintf("major %d", major), fmt.Sprintf("kernel %d 80", 20+r.IntN(3))}
	lines = append(lines, channels...)
	for p := range partitions {
		action := []string{"halt", "warm", "cold"}[r.IntN(3)]
		lines = append(lines, fmt.Sprintf("partition p%d entry %d action %s restarts %d inputs 0 outputs %d", p, r.IntN(2), action, r.IntN(16), r.IntN(4)))
		lines = append(lines, fmt.Sprintf("region 0 3 %d rwx", 4*p), fmt.Sprintf("region %d 3 %d rw", 14+r.IntN(3), 110+4*p))
		lines = append(lines, ports[p]...)
	}
	for core := range cores {
		lines = append(lines, "core")
		left := major
		for p := core; p < partitions; p += cores {
			for range r.IntN(3) {
				usable, slack := 1+r.IntN(200), api.LeastSlack+r.IntN(3)
				left -= usable + slack
				lines = append(lines, fmt.Sprintf("window %d %d %d", p, usable, slack))
			}
		}
		lines = append(lines, fmt.Sprintf("window none %d 90", left-90))
	}
	m := recipe{c: configOf(t, strings.Join(append(lines, "end"), "\n"))}
	for p := range partitions {
		m.programs = append(m.programs, drawnProgram(t, r, len(ports[p])))
	}
	return m
}

// drawnChannels draws channels' lines, and each partition's lines of ports.
func drawnChannels(r *rand.Rand, partitions int) (channels []string, ports [][]string) {
	ports = make([][]string, partitions)
	for range r.IntN(9) {
		ends := 2
		line := fmt.Sprintf("channel queuing %d %d", 1+r.IntN(3), 1+r.IntN(3))
		if r.IntN(2) == 0 {
			line, ends = fmt.Sprintf("channel sampling %d", 1+r.IntN(3)), 2+r.IntN(api.MaxDests)
		}
		from, to := r.IntN(partitions), r.IntN(partitions)
		if len(ports[from])+len(ports[to])+ends > api.MaxPorts {
			continue
		}
		ports[from] = append(ports[from], fmt.Sprintf("port %d source", len(channels)))
		for range ends - 1 {
			one := []int{from, to, to}[r.IntN(3)]
			ports[one] = append(ports[one], fmt.Sprintf("port %d dest", len(channels)))
		}
		channels = append(channels, line)
	}
	return channels, ports
}

// drawnProgram draws one of pieces, round and round: calls of all kinds, with ports that are there mostly, and now and then a trap or a stop.
func drawnProgram(t *testing.T, r *rand.Rand, ports int) []uint32 {
	t.Helper()
	pieces := []string{
		"st r4, r0, 40", "addi r4, r4, 3", "st r4, r0, 256", "cyc r4", "ld r5, r0, 256",
		"li r1, PORT\nli r2, 256\nli r3, 1\nhyp 1", "li r1, PORT\nli r2, 257\nli r3, 2\nhyp 1", "li r1, PORT\nli r2, 256\nhyp 2", "li r1, PORT\nli r2, 30\nhyp 2",
		"li r1, PORT\nhyp 3", "hyp 5", "hyp 6", "hyp 0",
	}
	seldom := []string{"hyp 7", "hyp 9", "div r1, r1, r0", "ld r1, r0, 4000", "st r1, r0, -1", "word 0"}
	lines := []string{"nop"}
	for range 4 + r.IntN(6) {
		lines = append(lines, strings.ReplaceAll(pieces[r.IntN(len(pieces))], "PORT", fmt.Sprint(r.IntN(ports+1))))
		if r.IntN(30) == 0 {
			lines = append(lines, seldom[r.IntN(len(seldom))])
		}
	}
	text := "begin: " + strings.Join(lines, "\n") + "\njmp begin"
	words, line, e := asm.Assemble(text)
	if e != api.OK {
		t.Fatalf("the line %d of\n%s: error %d", line, text, e)
	}
	return words
}
