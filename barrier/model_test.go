package barrier_test

import (
	"math/rand/v2"
	"testing"

	"bulkhead/api"
	"bulkhead/barrier"
	"bulkhead/mem"
)

// P18.5: frame by frame: all but one come, then the last one, then nobody till it is opened; then as at first, one epoch further.
func TestFrames(t *testing.T) {
	for cores := 1; cores <= api.MaxCores; cores++ {
		for _, first := range edges {
			m := marked(t, 3, 0, first)
			want := m.Words()
			for range 3 {
				meets(t, m, cores)
				want[4]++
				stays(t, m, want)
			}
		}
	}
}

// meets goes through a frame's end at the barrier at 3, with an Open in vain ahead of each that comes.
func meets(t *testing.T, m *mem.Memory, cores int) {
	t.Helper()
	for i := range cores {
		opens(t, m, 3, cores, api.ErrBarrierShort)
		comes(t, m, 3, cores, i == cores-1, api.OK)
	}
	for range 3 {
		comes(t, m, 3, cores, false, api.ErrBarrierFull)
	}
	opens(t, m, 3, cores, api.OK)
}

// hall is who stands at a barrier: each core once, by its number, and how often the doors were opened.
type hall struct {
	at, cores int
	first     uint32
	in        []int
	opened    int
}

// words tells the two words of the hall's barrier.
func (h *hall) words() [2]uint32 { return [2]uint32{uint32(len(h.in)), h.first + uint32(h.opened)} }

// come lets the next core in, and asks for the answer.
func (h *hall) come(t *testing.T, m *mem.Memory) {
	t.Helper()
	if len(h.in) == h.cores {
		comes(t, m, h.at, h.cores, false, api.ErrBarrierFull)
		return
	}
	h.in = append(h.in, len(h.in))
	comes(t, m, h.at, h.cores, h.in[len(h.in)-1] == h.cores-1, api.OK)
}

// open opens the doors, if all are in, and asks for the answer.
func (h *hall) open(t *testing.T, m *mem.Memory) {
	t.Helper()
	if len(h.in) < h.cores {
		opens(t, m, h.at, h.cores, api.ErrBarrierShort)
		return
	}
	h.in = nil
	h.opened++
	opens(t, m, h.at, h.cores, api.OK)
}

// refused calls with wrong numbers, of which none may be seen later.
func (h *hall) refused(t *testing.T, r *rand.Rand, m *mem.Memory) {
	t.Helper()
	cores := wrongCores[r.IntN(len(wrongCores))]
	comes(t, m, h.at, cores, false, api.ErrBarrierCores)
	opens(t, m, h.at, cores, api.ErrBarrierCores)
	comes(t, m, -1-r.IntN(9), h.cores, false, api.ErrMemAt)
	opens(t, m, 31+r.IntN(9), h.cores, api.ErrMemAt)
	for cores := 1; cores < len(h.in); cores++ {
		opens(t, m, h.at, cores, api.ErrBarrierFull)
		comes(t, m, h.at, cores, false, api.ErrBarrierFull)
	}
}

// P18.4, P18.5: several barriers of one memory, called in any order, each as if the others were not there.
func TestHalls(t *testing.T) {
	for seed := range uint64(100) {
		r := rand.New(rand.NewPCG(seed, 18))
		m := memory(t, 2)
		want := make([]uint32, 32)
		for i := range want {
			want[i] = r.Uint32()
		}
		halls := []*hall{{at: 0}, {at: 2}, {at: 13}, {at: 15}, {at: 30}}
		for _, h := range halls {
			h.cores, h.first = 1+r.IntN(api.MaxCores), edges[r.IntN(len(edges))]
			want[h.at], want[h.at+1] = h.words()[0], h.words()[1]
		}
		m.Lay(0, want)
		for range 300 {
			h := halls[r.IntN(len(halls))]
			switch r.IntN(4) {
			case 0:
				h.open(t, m)
			case 1:
				h.refused(t, r, m)
			default:
				h.come(t, m)
			}
			w := h.words()
			want[h.at], want[h.at+1] = w[0], w[1]
			looks(t, m, h.at, barrier.View{Come: int(w[0]), Epoch: int(w[1])}, api.OK)
			stays(t, m, want)
			if t.Failed() {
				t.Fatalf("seed %d: %+v", seed, h)
			}
		}
	}
}
