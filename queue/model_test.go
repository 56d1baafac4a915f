package queue_test

import (
	"math/rand/v2"
	"slices"
	"testing"

	"bulkhead/api"
	"bulkhead/mem"
	"bulkhead/queue"
)

// port is what a port must hold: where it lies, at which place its messages begin, its messages, how many were lost.
type port struct {
	at, first int
	held      [][]uint32
	lost      uint32
}

// lane is what a channel must hold.
type lane struct {
	shape
	stage  int
	staged [][]uint32
	ports  []*port
}

// put puts a message, right or not, and notes it.
func (l *lane) put(t *testing.T, r *rand.Rand, m *mem.Memory) {
	t.Helper()
	message := make([]uint32, r.IntN(l.words+3))
	for i := range message {
		message[i] = r.Uint32() & r.Uint32() & 3
	}
	if len(message) < 1 || len(message) > l.words {
		puts(t, m, l.stage, l.shape, message, false, api.ErrQueueWords)
		return
	}
	full := len(l.staged) == l.depth
	puts(t, m, l.stage, l.shape, message, !full, api.OK)
	if !full {
		l.staged = append(l.staged, message)
	}
}

// deliver names some of the ports, in any order, and notes what must come of it.
func (l *lane) deliver(t *testing.T, r *rand.Rand, m *mem.Memory) {
	t.Helper()
	var places []int
	var named []*port
	for _, i := range r.Perm(len(l.ports))[:r.IntN(len(l.ports)+1)] {
		places = append(places, l.ports[i].at)
		named = append(named, l.ports[i])
	}
	if len(named) > api.MaxDests {
		delivers(t, m, l.stage, l.shape, api.ErrLong, places...)
		return
	}
	delivers(t, m, l.stage, l.shape, api.OK, places...)
	for _, p := range named {
		for _, message := range l.staged {
			switch {
			case len(p.held) < l.depth:
				p.held = append(p.held, message)
			case p.lost < top:
				p.lost++
			}
		}
	}
	l.staged = nil
}

// take takes a message of one of the ports away, and notes that.
func (l *lane) take(t *testing.T, r *rand.Rand, m *mem.Memory) {
	t.Helper()
	p := l.ports[r.IntN(len(l.ports))]
	takes(t, m, p.at, l.shape, len(p.held) > 0, api.OK)
	if len(p.held) == 0 {
		return
	}
	p.held = p.held[1:]
	p.first++
	if p.first == l.depth || len(p.held) == 0 {
		p.first = 0
	}
}

// ask holds the stage and all ports against what they must hold.
func (l *lane) ask(t *testing.T, m *mem.Memory) {
	t.Helper()
	staged(t, m, l.stage, l.shape, len(l.staged), api.OK)
	for _, p := range l.ports {
		counts(t, m, p.at, l.shape, len(p.held), p.lost, api.OK)
		if len(p.held) == 0 {
			looks(t, m, p.at, l.shape, nil, api.OK)
			continue
		}
		looks(t, m, p.at, l.shape, p.held[0], api.OK)
	}
}

// lay writes what the channel's words must be into a list of all words.
func (l *lane) lay(want []uint32) {
	copy(want[l.stage:], stageOf(l.shape, l.staged))
	for _, p := range l.ports {
		copy(want[p.at:], portOf(l.shape, p.first, p.lost, p.held))
	}
}

// lanes lays two channels with up to five ports each, one item behind the other with no word between.
func lanes(r *rand.Rand) []*lane {
	at := r.IntN(4)
	var out []*lane
	for range 2 {
		l := &lane{shape: shape{1 + r.IntN(api.MaxMessage), 1 + r.IntN(api.MaxDepth)}, stage: at}
		at += l.stageSize()
		for range 1 + r.IntN(5) {
			l.ports = append(l.ports, &port{at: at, lost: []uint32{0, top - 5}[r.IntN(2)]})
			at += l.portSize()
		}
		out = append(out, l)
	}
	return out
}

// P20.1 to P20.4: two channels that lie beside one another, called in any order, each as if the other were not there.
func TestLanes(t *testing.T) {
	for seed := range uint64(150) {
		r := rand.New(rand.NewPCG(seed, 20))
		m := memory(t, 110)
		want := make([]uint32, 110*api.FrameWords)
		for i := range want {
			want[i] = r.Uint32()
		}
		all := lanes(r)
		for _, l := range all {
			l.lay(want)
		}
		m.Lay(0, want)
		for range 150 {
			l := all[r.IntN(len(all))]
			switch r.IntN(8) {
			case 0:
				l.deliver(t, r, m)
			case 1, 2, 3:
				l.take(t, r, m)
			default:
				l.put(t, r, m)
			}
			for _, l := range all {
				l.ask(t, m)
			}
			l.lay(want)
			stays(t, m, want)
			if t.Failed() {
				t.Fatalf("seed %d: %+v", seed, l)
			}
		}
	}
}

// P20.4: what is taken is what the port held, what the stage held, and what was put with true, in this order, less what was lost; told by the answers of the calls alone.
func TestOrder(t *testing.T) {
	for seed := range uint64(200) {
		r := rand.New(rand.NewPCG(seed, 204))
		s := shape{1 + r.IntN(3), 1 + r.IntN(api.MaxDepth)}
		m := memory(t, 8)
		held, waits := letters(s, r.IntN(s.depth+1), 1000), letters(s, r.IntN(s.depth+1), 5000)
		first := 0
		if len(held) > 0 {
			first = r.IntN(s.depth)
		}
		lay(t, m, 0, stageOf(s, waits)...)
		lay(t, m, 40, portOf(s, first, 0, held)...)
		want := slices.Clone(held)
		var got [][]uint32
		for step := range uint32(200) {
			switch r.IntN(4) {
			case 0, 1:
				message := rising(1+r.IntN(s.words), 10*step)
				ok, _ := queue.Put(m, 0, s.words, s.depth, message)
				if ok {
					waits = append(waits, message)
				}
			case 2:
				before, gone, _ := queue.Count(m, 40, s.words, s.depth)
				delivers(t, m, 0, s, api.OK, 40)
				after, now, _ := queue.Count(m, 40, s.words, s.depth)
				if after-before+int(now-gone) != len(waits) {
					t.Errorf("of %d messages %d came and %d were lost", len(waits), after-before, now-gone)
				}
				want = append(want, waits[:after-before]...)
				waits = nil
			default:
				message, _, _ := queue.Look(m, 40, s.words, s.depth)
				if ok, _ := queue.Take(m, 40, s.words, s.depth); ok {
					got = append(got, message)
				}
			}
		}
		left, _, _ := queue.Count(m, 40, s.words, s.depth)
		if len(got)+left != len(want) || !slices.EqualFunc(got, want[:len(got)], slices.Equal) {
			t.Fatalf("seed %d: %d, and %d left, want %d", seed, got, left, want)
		}
	}
}

// R7: channels beside one another in one memory, each worked on by a goroutine of its own.
func TestSideBySide(t *testing.T) {
	s := shape{2, 3}
	size := s.stageSize() + s.portSize()
	m := memory(t, 16)
	done := make(chan uint32)
	for i := range 8 {
		go func() {
			stage, at := i*size, i*size+s.stageSize()
			sum := uint32(0)
			for n := range uint32(300) {
				queue.Put(m, stage, s.words, s.depth, []uint32{n, uint32(i)})
				queue.Deliver(m, stage, s.words, s.depth, at)
				message, _, _ := queue.Look(m, at, s.words, s.depth)
				queue.Take(m, at, s.words, s.depth)
				if len(message) == 2 && message[1] == uint32(i) {
					sum += message[0]
				}
			}
			done <- sum
		}()
	}
	for range 8 {
		if sum := <-done; sum != 299*150 {
			t.Errorf("the messages' sum %d", sum)
		}
	}
}
