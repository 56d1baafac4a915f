package sample_test

import (
	"math/rand/v2"
	"slices"
	"testing"

	"bulkhead/api"
	"bulkhead/mem"
)

// P19.6: of several messages the last one alone comes, and stays until the next one.
func TestLastOne(t *testing.T) {
	m := memory(t, 2)
	for frame := range uint32(20) {
		for i := range uint32(5) {
			puts(t, m, 0, 3, rising(1+int(frame+i)%3, 100*frame+10*i), api.OK)
		}
		last := rising(1+int(frame+4)%3, 100*frame+40)
		delivers(t, m, 0, 3, []int{6, 14}, api.OK)
		reads(t, m, 6, 3, last, true)
		reads(t, m, 14, 3, last, true)
		for range frame {
			delivers(t, m, 0, 3, []int{14, 6}, api.OK)
			reads(t, m, 6, 3, last, false)
			reads(t, m, 14, 3, last, false)
		}
	}
}

// hall is what a channel must hold: the message on its stage, and of each port its message and whether the last Deliver that named it brought it.
type hall struct {
	words, stage int
	waits        []uint32
	ports        []int
	holds        [][]uint32
	fresh        []bool
}

// put notes the message.
func (h *hall) put(t *testing.T, r *rand.Rand, m *mem.Memory) {
	t.Helper()
	message := make([]uint32, r.IntN(h.words+3))
	for i := range message {
		message[i] = r.Uint32() & r.Uint32() & 3
	}
	if len(message) < 1 || len(message) > h.words {
		puts(t, m, h.stage, h.words, message, api.ErrSampleWords)
		return
	}
	puts(t, m, h.stage, h.words, message, api.OK)
	h.waits = message
}

// deliver names some of the ports, in any order, and notes what must come of it.
func (h *hall) deliver(t *testing.T, r *rand.Rand, m *mem.Memory) {
	t.Helper()
	var named []int
	for _, i := range r.Perm(len(h.ports))[:r.IntN(len(h.ports)+1)] {
		named = append(named, h.ports[i])
	}
	if len(named) == 0 || len(named) > api.MaxDests {
		delivers(t, m, h.stage, h.words, named, api.ErrArg)
		return
	}
	delivers(t, m, h.stage, h.words, named, api.OK)
	for i, at := range h.ports {
		if !slices.Contains(named, at) {
			continue
		}
		h.fresh[i] = len(h.waits) > 0
		if h.fresh[i] {
			h.holds[i] = h.waits
		}
	}
	h.waits = nil
}

// ask holds the stage and all ports against what they must hold.
func (h *hall) ask(t *testing.T, m *mem.Memory) {
	t.Helper()
	staged(t, m, h.stage, h.words, min(len(h.waits), 1), api.OK)
	for i, at := range h.ports {
		reads(t, m, at, h.words, h.holds[i], h.fresh[i])
	}
}

// lay writes what the channel's words must be into a list of all words.
func (h *hall) lay(want []uint32) {
	clear(want[h.stage : h.stage+2+h.words])
	if len(h.waits) > 0 {
		copy(want[h.stage:], padded(h.words, h.waits, 1))
	}
	for i, at := range h.ports {
		clear(want[at : at+3+h.words])
		if len(h.holds[i]) > 0 {
			fresh := uint32(0)
			if h.fresh[i] {
				fresh = 1
			}
			copy(want[at:], padded(h.words, h.holds[i], 1, fresh))
		}
	}
}

// halls lays two channels with up to five ports each, one item behind the other with no word between.
func halls(r *rand.Rand) []*hall {
	at := r.IntN(4)
	var out []*hall
	for range 2 {
		h := &hall{words: 1 + r.IntN(api.MaxMessage), stage: at}
		at += 2 + h.words
		for range 1 + r.IntN(5) {
			h.ports = append(h.ports, at)
			at += 3 + h.words
		}
		h.holds = make([][]uint32, len(h.ports))
		h.fresh = make([]bool, len(h.ports))
		out = append(out, h)
	}
	return out
}

// P19.1 to P19.7: two channels that lie beside one another, called in any order, each as if the other were not there.
func TestHalls(t *testing.T) {
	for seed := range uint64(150) {
		r := rand.New(rand.NewPCG(seed, 19))
		m := memory(t, 16)
		want := make([]uint32, 256)
		for i := range want {
			want[i] = r.Uint32()
		}
		all := halls(r)
		for _, h := range all {
			h.lay(want)
		}
		m.Lay(0, want)
		for range 100 {
			h := all[r.IntN(len(all))]
			if r.IntN(2) == 0 {
				h.put(t, r, m)
			} else {
				h.deliver(t, r, m)
			}
			for _, h := range all {
				h.ask(t, m)
			}
			h.lay(want)
			stays(t, m, want)
			if t.Failed() {
				t.Fatalf("seed %d: %+v", seed, h)
			}
		}
	}
}
