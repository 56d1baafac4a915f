package mem_test

import (
	"maps"
	"math"
	"math/rand/v2"
	"runtime"
	"slices"
	"sync"
	"testing"

	"bulkhead/api"
	"bulkhead/mem"
)

// model is a memory by its words one by one: a place that it has not is none of its keys.
type model map[int]uint32

// modelOf makes a model of so many words, all 0.
func modelOf(size int) model {
	m := model{}
	for at := range size {
		m[at] = 0
	}
	return m
}

// has tells whether a run is there; n is small enough to be gone through.
func (m model) has(at, n int) bool {
	if at < 0 || n < 0 || at > len(m) {
		return false
	}
	for i := range n {
		if _, ok := m[at+i]; !ok {
			return false
		}
	}
	return true
}

// lay tells whether the words could be laid, and lays them then.
func (m model) lay(at int, words []uint32) api.Errno {
	if !m.has(at, len(words)) {
		return api.ErrMemAt
	}
	for i, w := range words {
		m[at+i] = w
	}
	return api.OK
}

// take tells the words of a run.
func (m model) take(at, n int) ([]uint32, api.Errno) {
	if !m.has(at, n) {
		return nil, api.ErrMemAt
	}
	var out []uint32
	for i := range n {
		out = append(out, m[at+i])
	}
	return out, api.OK
}

// fill and move are told by what lay and take do.
func (m model) fill(at, n int, w uint32) api.Errno {
	if n < 0 {
		return api.ErrMemAt
	}
	return m.lay(at, slices.Repeat([]uint32{w}, n))
}

func (m model) move(to, from, n int) api.Errno {
	words, e := m.take(from, n)
	if e != api.OK {
		return e
	}
	return m.lay(to, words)
}

// differ tells the places at which two models differ.
func (m model) differ(o model) []int {
	var out []int
	for at := range mostWords {
		w, here := m[at]
		x, there := o[at]
		if here != there || w != x {
			out = append(out, at)
		}
	}
	return out
}

// place draws a place or a length for a memory of so many words: most of them near its ends.
func place(r *rand.Rand, size int) int {
	switch r.IntN(8) {
	case 0:
		return r.IntN(5) - 2
	case 1:
		return size - 3 + r.IntN(6)
	case 2:
		return 16*r.IntN(size/16+1) - 1 + r.IntN(3)
	default:
		return r.IntN(size + 1)
	}
}

// length draws a length: short ones more often.
func length(r *rand.Rand, size int) int {
	if r.IntN(3) == 0 {
		return place(r, size)
	}
	return r.IntN(6)
}

// word draws a word: noughts and the greatest one often.
func word(r *rand.Rand) uint32 {
	switch r.IntN(4) {
	case 0:
		return 0
	case 1:
		return math.MaxUint32
	default:
		return r.Uint32()
	}
}

// step does one call on both, and tells whether they answer alike.
func step(r *rand.Rand, m *mem.Memory, by model) bool {
	size := len(by)
	at, n, w := place(r, size), length(r, size), word(r)
	switch r.IntN(6) {
	case 0:
		got, e := m.Read(at)
		want, f := by.take(at, 1)
		return e == f && (e != api.OK && got == 0 || e == api.OK && got == want[0])
	case 1:
		return m.Write(at, w) == by.lay(at, []uint32{w})
	case 2:
		got, e := m.Take(at, n)
		want, f := by.take(at, n)
		return e == f && slices.Equal(got, want)
	case 3:
		words := make([]uint32, max(n, 0))
		for i := range words {
			words[i] = word(r)
		}
		return m.Lay(at, words) == by.lay(at, words)
	case 4:
		return m.Fill(at, n, w) == by.fill(at, n, w)
	default:
		from := place(r, size)
		return m.Move(at, from, n) == by.move(at, from, n)
	}
}

// Long rows of calls, held against the words one by one (P5.2 to P5.7, P5.10).
func TestAgainstModel(t *testing.T) {
	r := rand.New(rand.NewPCG(5, 16))
	for range 60 {
		frames, others := 1+r.IntN(4), 1+r.IntN(4)
		m, o := made(t, frames), made(t, others)
		by, byO := modelOf(16*frames), modelOf(16*others)
		for k := range 300 {
			if !step(r, m, by) || !step(r, o, byO) {
				t.Fatalf("call %d is answered otherwise than by the words one by one", k)
			}
			if k%10 == 0 {
				m2, by2 := m.Clone(), maps.Clone(by)
				if got := m.Words(); len(got) != len(by) || !slices.Equal(got, must(by.take(0, len(by)))) {
					t.Fatalf("words behind call %d: %v", k, got)
				}
				if got := slices.Collect(m.Differ(o)); !slices.Equal(got, by.differ(byO)) {
					t.Fatalf("differences behind call %d: %v", k, got)
				}
				if r.IntN(2) == 0 {
					m, by = m2, by2
				}
			}
			if m.Frames() != frames || o.Frames() != others {
				t.Fatalf("frames behind call %d: %d, %d", k, m.Frames(), o.Frames())
			}
		}
	}
}

// must tells words that are there.
func must(words []uint32, _ api.Errno) []uint32 { return words }

// Several goroutines, each on words of its own that lie close to those of others: each call is as if it came alone (P5.9).
func TestSideBySide(t *testing.T) {
	const workers, own = 9, 7 // 63 words: no worker has a frame for itself
	m := made(t, 4)
	told(t, "Write", m.Write(63, 5), api.OK)
	var wait sync.WaitGroup
	var wrong [workers]int
	for k := range workers {
		wait.Go(func() { wrong[k] = rounds(m, k*own, uint32(k)<<20) })
	}
	wait.Wait()
	for k, n := range wrong {
		if n != 0 {
			t.Errorf("worker %d: %d answers that are not its own", k, n)
		}
	}
	takes(t, m, 63, 1, 5)
}

// rounds works on seven words from `at` on, and counts the answers that are not as if nobody else were there.
func rounds(m *mem.Memory, at int, tag uint32) int {
	wrong := 0
	ask := func(right bool) {
		if !right {
			wrong++
		}
		runtime.Gosched()
	}
	for i := range uint32(500) {
		w := tag + 16*i
		ask(m.Lay(at, []uint32{w, w + 1, w + 2, w + 3, w + 4, w + 5, w + 6}) == api.OK)
		ask(m.Move(at+1, at, 5) == api.OK)
		ask(m.Fill(at+4, 2, 0) == api.OK)
		ask(m.Write(at+4, w+9) == api.OK)
		l, e := m.Take(at, 7)
		ask(e == api.OK && slices.Equal(l, []uint32{w, w, w + 1, w + 2, w + 9, 0, w + 6}))
		ask(m.Move(at, at+3, 4) == api.OK)
		x, e := m.Read(at)
		ask(e == api.OK && x == w+2)
		l, e = m.Take(at, 7)
		ask(e == api.OK && slices.Equal(l, []uint32{w + 2, w + 9, 0, w + 6, w + 9, 0, w + 6}))
		ask(m.Move(60, at, 7) == api.ErrMemAt)
		ask(m.Frames() == 4)
	}
	return wrong
}
