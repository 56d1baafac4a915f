package mem_test

import (
	"math"
	"slices"
	"testing"

	"bulkhead/api"
	"bulkhead/mem"
)

// The bounds by the numbers that the document prints.
const (
	frameWords = 16
	mostFrames = 1024
	mostWords  = 16384
)

// made makes a memory of so many frames.
func made(t *testing.T, frames int) *mem.Memory {
	t.Helper()
	m, e := mem.New(frames)
	if m == nil || e != api.OK {
		t.Fatalf("New(%d): %v, error %d", frames, m, e)
	}
	return m
}

// counted makes a memory of so many frames whose word at a place is that place and 100.
func counted(t *testing.T, frames int) *mem.Memory {
	t.Helper()
	m, e := mem.Of(rising(100, frames*frameWords))
	if m == nil || e != api.OK {
		t.Fatalf("Of(%d frames): %v, error %d", frames, m, e)
	}
	return m
}

// rising tells n words from w on.
func rising(w uint32, n int) []uint32 {
	out := make([]uint32, n)
	for i := range out {
		out[i] = w + uint32(i)
	}
	return out
}

// told asks for an error.
func told(t *testing.T, what string, got, want api.Errno) {
	t.Helper()
	if got != want {
		t.Errorf("%s: error %d, want %d", what, got, want)
	}
}

// holds asks for all words of a memory.
func holds(t *testing.T, what string, m *mem.Memory, want []uint32) {
	t.Helper()
	if got := m.Words(); !slices.Equal(got, want) {
		t.Errorf("%s: %v, want %v", what, got, want)
	}
}

// takes asks for the words of a run.
func takes(t *testing.T, m *mem.Memory, at, n int, want ...uint32) {
	t.Helper()
	if got, e := m.Take(at, n); e != api.OK || !slices.Equal(got, want) {
		t.Errorf("Take(%d, %d): %v, error %d; want %v", at, n, got, e, want)
	}
}

// The section 'Examples', row by row (P5.1 to P5.7).
func TestExamples(t *testing.T) {
	for _, frames := range []int{0, 1025} {
		m, e := mem.New(frames)
		if m != nil || e != api.ErrMemRoom {
			t.Errorf("New(%d): %v, error %d", frames, m, e)
		}
	}
	for n, want := range map[int]api.Errno{0: api.ErrMemRoom, 17: api.ErrMemRoom, 16385: api.ErrLong} {
		m, e := mem.Of(make([]uint32, n))
		if m != nil || e != want {
			t.Errorf("Of(%d words): %v, error %d, want %d", n, m, e, want)
		}
	}

	m := made(t, 2)
	if m.Frames() != 2 {
		t.Errorf("Frames: %d", m.Frames())
	}
	told(t, "Write(31, 7)", m.Write(31, 7), api.OK)
	if w, e := m.Read(31); w != 7 || e != api.OK {
		t.Errorf("Read(31): %d, error %d", w, e)
	}
	for _, at := range []int{32, -1} {
		if w, e := m.Read(at); w != 0 || e != api.ErrMemAt {
			t.Errorf("Read(%d): %d, error %d", at, w, e)
		}
	}
	told(t, "Write(32, 1)", m.Write(32, 1), api.ErrMemAt)

	told(t, "Lay(30)", m.Lay(30, []uint32{4, 5}), api.OK)
	takes(t, m, 29, 3, 0, 4, 5)
	takes(t, m, 32, 0)
	for _, x := range [][2]int{{30, 3}, {33, 0}, {0, -1}} {
		if l, e := m.Take(x[0], x[1]); len(l) != 0 || e != api.ErrMemAt {
			t.Errorf("Take(%d, %d): %v, error %d", x[0], x[1], l, e)
		}
	}

	told(t, "Lay(0)", m.Lay(0, []uint32{1, 2, 3}), api.OK)
	told(t, "Move(1, 0, 3)", m.Move(1, 0, 3), api.OK)
	takes(t, m, 0, 5, 1, 1, 2, 3, 0)
	told(t, "Move(0, 1, 3)", m.Move(0, 1, 3), api.OK)
	takes(t, m, 0, 5, 1, 2, 3, 3, 0)
	told(t, "Move(30, 0, 3)", m.Move(30, 0, 3), api.ErrMemAt)

	n := m.Clone()
	told(t, "Fill(2, 3, 9)", n.Fill(2, 3, 9), api.OK)
	if got := slices.Collect(m.Differ(n)); !slices.Equal(got, []int{2, 3, 4}) {
		t.Errorf("Differ: %v", got)
	}
	want := []int{0, 1, 2, 3, 16, 17, 18, 19, 20, 21, 22, 23, 24, 25, 26, 27, 28, 29, 30, 31}
	if got := slices.Collect(m.Differ(made(t, 1))); !slices.Equal(got, want) {
		t.Errorf("Differ from one frame: %v", got)
	}
}

// New: 1 to MaxFrames frames, all words 0 (P5.1, P5.2).
func TestNew(t *testing.T) {
	for _, frames := range []int{1, 2, 3, 1023, mostFrames} {
		m := made(t, frames)
		if m.Frames() != frames {
			t.Errorf("New(%d): %d frames", frames, m.Frames())
		}
		if l := m.Words(); !slices.Equal(l, make([]uint32, 16*frames)) {
			t.Errorf("New(%d): %d words, or not all of them 0", frames, len(l))
		}
	}
	for _, frames := range []int{math.MinInt, -1024, -1, 0, mostFrames + 1, 1 << 32, 1<<60 + 1, math.MaxInt} {
		if m, e := mem.New(frames); m != nil || e != api.ErrMemRoom {
			t.Errorf("New(%d): %v, error %d", frames, m, e)
		}
	}
}

// Of: each number of words around the frames' ends, and what is too long ahead of what is no whole frame (P5.1, P5.2).
func TestOf(t *testing.T) {
	for n := range 70 {
		given := rising(1, n)
		m, e := mem.Of(given)
		if n == 0 || n%frameWords != 0 {
			if m != nil || e != api.ErrMemRoom {
				t.Errorf("Of(%d words): %v, error %d", n, m, e)
			}
			continue
		}
		if e != api.OK || m.Frames() != n/frameWords {
			t.Errorf("Of(%d words): %d frames, error %d", n, m.Frames(), e)
		}
		holds(t, "Of", m, given)
	}
	for n, want := range map[int]api.Errno{
		mostWords - 16: api.OK, mostWords - 1: api.ErrMemRoom, mostWords: api.OK,
		mostWords + 1: api.ErrLong, mostWords + 16: api.ErrLong, 2 * mostWords: api.ErrLong,
	} {
		given := rising(7, n)
		m, e := mem.Of(given)
		told(t, "Of", e, want)
		if (m != nil) != (want == api.OK) || m != nil && !slices.Equal(m.Words(), given) {
			t.Errorf("Of(%d words) is no memory of these words", n)
		}
	}
	if m, e := mem.Of(nil); m != nil || e != api.ErrMemRoom {
		t.Errorf("Of(nil): %v, error %d", m, e)
	}
}

// Read and Write: each place of a small memory and those around it (P5.3); only that word changes (P5.10).
func TestReadAndWrite(t *testing.T) {
	for at := -3; at < 36; at++ {
		m := counted(t, 2)
		want := rising(100, 32)
		there := at >= 0 && at < 32
		w, e := m.Read(at)
		if there && (w != uint32(100+at) || e != api.OK) || !there && (w != 0 || e != api.ErrMemAt) {
			t.Errorf("Read(%d): %d, error %d", at, w, e)
		}
		e = m.Write(at, 4294967295)
		if there {
			want[at] = 4294967295
			told(t, "Write", e, api.OK)
			if w, e := m.Read(at); w != 4294967295 || e != api.OK {
				t.Errorf("Read(%d) behind Write: %d, error %d", at, w, e)
			}
		} else {
			told(t, "Write", e, api.ErrMemAt)
		}
		holds(t, "behind Write", m, want)
	}
	m := counted(t, 1)
	for _, at := range far {
		if w, e := m.Read(at); w != 0 || e != api.ErrMemAt {
			t.Errorf("Read(%d): %d, error %d", at, w, e)
		}
		told(t, "Write", m.Write(at, 1), api.ErrMemAt)
	}
	holds(t, "behind Write far off", m, rising(100, 16))
}

// far: places and numbers whose sums wrap round, or that are a small one in fewer bits.
var far = []int{math.MinInt, math.MinInt + 1, -1 << 32, 1 << 32, 1<<32 + 1, 1 << 62, math.MaxInt - 15, math.MaxInt - 1, math.MaxInt}

// Take, Lay and Fill: each run of a small memory and those around it (P5.4); nothing else changes (P5.10).
func TestRuns(t *testing.T) {
	const size = 16
	for at := -2; at <= size+2; at++ {
		for n := -2; n <= size+2; n++ {
			there := at >= 0 && n >= 0 && at+n <= size
			want := api.ErrMemAt
			if there {
				want = api.OK
			}
			m := counted(t, 1)
			l, e := m.Take(at, n)
			told(t, "Take", e, want)
			if there && !slices.Equal(l, rising(uint32(100+at), n)) || !there && len(l) != 0 {
				t.Errorf("Take(%d, %d): %v", at, n, l)
			}
			for _, w := range []uint32{0, 5, 4294967295} {
				fills(t, at, n, w, there, want)
			}
			if n >= 0 {
				lays(t, at, n, there, want)
			}
		}
	}
}

// fills asks what Fill does, and that it does nothing else.
func fills(t *testing.T, at, n int, w uint32, there bool, want api.Errno) {
	t.Helper()
	m, words := counted(t, 1), rising(100, 16)
	told(t, "Fill", m.Fill(at, n, w), want)
	for i := at; there && i < at+n; i++ {
		words[i] = w
	}
	holds(t, "behind Fill", m, words)
}

// lays asks what Lay does, and that it does nothing else.
func lays(t *testing.T, at, n int, there bool, want api.Errno) {
	t.Helper()
	m, words := counted(t, 1), rising(100, 16)
	told(t, "Lay", m.Lay(at, rising(1, n)), want)
	for i := 0; there && i < n; i++ {
		words[at+i] = uint32(1 + i)
	}
	holds(t, "behind Lay", m, words)
}

// Runs that are far off, or too long by far, are not there (R1, P5.4, P5.5).
func TestFarRuns(t *testing.T) {
	m := counted(t, 1)
	places := append([]int{0, 1, 15, 16}, far...)
	for _, at := range places {
		for _, n := range places {
			if at >= 0 && at <= 16 && n >= 0 && n <= 16-at {
				continue
			}
			l, e := m.Take(at, n)
			if len(l) != 0 || e != api.ErrMemAt {
				t.Errorf("Take(%d, %d): %d words, error %d", at, n, len(l), e)
			}
			told(t, "Fill", m.Fill(at, n, 3), api.ErrMemAt)
			told(t, "Fill with 0", m.Fill(at, n, 0), api.ErrMemAt)
			told(t, "Move to", m.Move(at, 0, n), api.ErrMemAt)
			told(t, "Move from", m.Move(0, at, n), api.ErrMemAt)
			if n >= 0 && n <= 16 {
				told(t, "Lay", m.Lay(at, rising(1, n)), api.ErrMemAt)
			}
		}
	}
	holds(t, "behind all that", m, rising(100, 16))
}

// Move: all pairs of runs of a small memory, and those around it (P5.5, P5.10).
func TestMove(t *testing.T) {
	const size = 16
	there := func(at, n int) bool { return at >= 0 && n >= 0 && at+n <= size }
	m := counted(t, 1)
	for to := -1; to <= size+1; to++ {
		for from := -1; from <= size+1; from++ {
			for n := -1; n <= size+1; n++ {
				m.Lay(0, rising(100, size))
				words, want := rising(100, size), api.ErrMemAt
				if there(to, n) && there(from, n) {
					want = api.OK
					for i := range n {
						words[to+i] = uint32(100 + from + i)
					}
				}
				if e := m.Move(to, from, n); e != want || !slices.Equal(m.Words(), words) {
					t.Errorf("Move(%d, %d, %d): error %d, %v; want %d, %v", to, from, n, e, m.Words(), want, words)
				}
			}
		}
	}
}

// Move through the whole of the greatest memory, both ways (P5.5).
func TestMoveFarther(t *testing.T) {
	m, words := counted(t, mostFrames), rising(100, mostWords)
	told(t, "Move up", m.Move(1, 0, mostWords-1), api.OK)
	holds(t, "behind Move up", m, append([]uint32{100}, words[:mostWords-1]...))
	told(t, "Move down", m.Move(0, 1, mostWords-1), api.OK)
	holds(t, "behind Move down", m, append(slices.Clone(words[:mostWords-1]), words[mostWords-2]))
	told(t, "Move over the end", m.Move(1, 0, mostWords), api.ErrMemAt)
}

// Clone: the same words, and a memory of its own (P5.6, P5.10).
func TestClone(t *testing.T) {
	for _, frames := range []int{1, 3, mostFrames} {
		m := counted(t, frames)
		n := m.Clone()
		if n == nil || n == m || n.Frames() != frames {
			t.Fatalf("Clone of %d frames is none", frames)
		}
		words := rising(100, 16*frames)
		holds(t, "Clone", n, words)
		told(t, "Write", m.Write(0, 1), api.OK)
		holds(t, "Clone behind a Write to the first one", n, words)
		told(t, "Write", n.Write(15, 2), api.OK)
		if w, _ := m.Read(15); w != 115 {
			t.Errorf("a Write to the clone is seen: %d", w)
		}
		m.Fill(0, 16, 0)
		n.Lay(3, []uint32{8, 8})
		m.Move(0, 1, 5)
		words[15], words[3], words[4] = 2, 8, 8
		holds(t, "Clone behind all that", n, words)
	}
}

// Differ: words that are unlike, and words that just one of the two has; rising (P5.7).
func TestDiffer(t *testing.T) {
	for _, x := range []struct{ one, other int }{{1, 1}, {1, 2}, {2, 1}, {3, 1}, {3, 3}} {
		m, o := counted(t, x.one), counted(t, x.other)
		var want []int
		for _, at := range []int{0, 1, 7, 15} {
			m.Write(at, uint32(at))
			want = append(want, at)
		}
		for at := 16 * min(x.one, x.other); at < 16*max(x.one, x.other); at++ {
			want = append(want, at)
		}
		for _, seq := range []func(func(int) bool){m.Differ(o), o.Differ(m)} {
			if got := slices.Collect(seq); !slices.Equal(got, want) {
				t.Errorf("%d and %d frames: %v, want %v", x.one, x.other, got, want)
			}
		}
	}
	m := counted(t, 2)
	for at := range m.Differ(m) {
		t.Errorf("a memory differs from itself at %d", at)
	}
	for at := range m.Differ(m.Clone()) {
		t.Errorf("a memory differs from its clone at %d", at)
	}
	// A word that only one has is a difference, also where it is 0.
	if got := slices.Collect(made(t, 1).Differ(made(t, 2))); len(got) != 16 || got[0] != 16 || got[15] != 31 {
		t.Errorf("zeros that one of the two does not have: %v", got)
	}
}

// Differ is left as soon as it is told to, and begins anew each time (P5.7).
func TestDifferIsLeft(t *testing.T) {
	m, o := made(t, 1), made(t, 2)
	o.Fill(4, 4, 1)
	seq := m.Differ(o)
	all := []int{4, 5, 6, 7, 16, 17, 18, 19, 20, 21, 22, 23, 24, 25, 26, 27, 28, 29, 30, 31}
	for most := 1; most <= len(all); most++ {
		var got []int
		seq(func(at int) bool {
			got = append(got, at)
			return len(got) < most
		})
		if !slices.Equal(got, all[:most]) {
			t.Errorf("left behind %d: %v", most, got)
		}
	}
	for range 2 {
		if got := slices.Collect(seq); !slices.Equal(got, all) {
			t.Errorf("once more: %v", got)
		}
	}
	// Two ranges over one iterator, the one inside the other, have nothing to do with each other.
	outer := 0
	for range seq {
		outer++
		if got := slices.Collect(seq); !slices.Equal(got, all) {
			t.Errorf("inside: %v", got)
		}
	}
	if outer != len(all) {
		t.Errorf("outside: %d places", outer)
	}
}

// Each place is looked at when the range comes to it (P5.7).
func TestDifferSeesWhatIsWrittenAhead(t *testing.T) {
	m, o := made(t, 2), made(t, 1)
	seq := m.Differ(o)
	m.Write(3, 1)
	var got []int
	for at := range seq {
		got = append(got, at)
		switch at {
		case 3:
			m.Write(2, 1) // behind
			m.Write(4, 1) // the very next one
			m.Write(9, 1)
			o.Write(12, 1)
		case 4:
			m.Write(4, 0) // the place itself: it has been told
			m.Write(9, 0)
			o.Write(15, 1)
		case 12:
			o.Write(15, 0)
			m.Write(14, 1)
			m.Write(20, 0)
		case 16:
			m.Write(14, 0)
		}
	}
	want := append([]int{3, 4, 12, 14}, 16, 17, 18, 19, 20, 21, 22, 23, 24, 25, 26, 27, 28, 29, 30, 31)
	if !slices.Equal(got, want) {
		t.Errorf("first: %v, want %v", got, want)
	}
	want = append([]int{2, 3, 12}, want[4:]...)
	if got := slices.Collect(seq); !slices.Equal(got, want) {
		t.Errorf("then: %v, want %v", got, want)
	}
}

// Of a nil memory: nothing, and ErrNil ahead of all other errors (P5.6, P5.7, P5.8).
func TestNil(t *testing.T) {
	var none *mem.Memory
	if none.Frames() != 0 || len(none.Words()) != 0 || none.Clone() != nil {
		t.Error("a nil memory has something")
	}
	for _, at := range []int{math.MinInt, -1, 0, 16, math.MaxInt} {
		if w, e := none.Read(at); w != 0 || e != api.ErrNil {
			t.Errorf("Read(%d): %d, error %d", at, w, e)
		}
		told(t, "Write", none.Write(at, 1), api.ErrNil)
		told(t, "Lay", none.Lay(at, []uint32{1}), api.ErrNil)
		told(t, "Lay of nothing", none.Lay(at, nil), api.ErrNil)
		for _, n := range []int{-1, 0, 1, math.MaxInt} {
			if l, e := none.Take(at, n); len(l) != 0 || e != api.ErrNil {
				t.Errorf("Take(%d, %d): %v, error %d", at, n, l, e)
			}
			told(t, "Fill", none.Fill(at, n, 1), api.ErrNil)
			told(t, "Move to", none.Move(at, 0, n), api.ErrNil)
			told(t, "Move from", none.Move(0, at, n), api.ErrNil)
		}
	}
	for what, seq := range map[string]func(func(int) bool){
		"of nil": none.Differ(counted(t, 1)), "with nil": counted(t, 1).Differ(none), "of nil with nil": none.Differ(none),
	} {
		if seq == nil {
			t.Fatalf("Differ %s is nil", what)
		}
		for at := range seq {
			t.Errorf("Differ %s: %d", what, at)
		}
	}
}

// What is laid is what is taken, and laying that changes nothing (P5.10); nil and no words are the same (R3).
func TestLayAndTake(t *testing.T) {
	m := counted(t, 2)
	words := rising(100, 32)
	for at := range 33 {
		for n := range 33 - at {
			l, e := m.Take(at, n)
			told(t, "Take", e, api.OK)
			told(t, "Lay", m.Lay(at, l), api.OK)
		}
	}
	holds(t, "behind Lay of what was taken", m, words)
	laid := []uint32{4294967295, 0, 2147483648, 9}
	for at := range 29 {
		told(t, "Lay", m.Lay(at, laid), api.OK)
		takes(t, m, at, 4, laid...)
	}
	told(t, "Lay of nil", m.Lay(32, nil), api.OK)
	told(t, "Lay of no words", m.Lay(32, []uint32{}), api.OK)
	told(t, "Lay of nil behind the end", m.Lay(33, nil), api.ErrMemAt)
	told(t, "Lay of nil ahead of all", m.Lay(-1, nil), api.ErrMemAt)
	told(t, "Fill of nothing at the end", m.Fill(32, 0, 1), api.OK)
	told(t, "Move of nothing at the end", m.Move(32, 32, 0), api.OK)
	told(t, "Move of nothing behind the end", m.Move(33, 0, 0), api.ErrMemAt)
	told(t, "Move of nothing from behind the end", m.Move(0, 33, 0), api.ErrMemAt)
}

// Lists that are handed in are neither changed nor kept; those that are answered share nothing, spare room neither (R5, P5.10).
func TestListsAreApart(t *testing.T) {
	room := rising(500, 40)
	given := room[4:20]
	m, e := mem.Of(given)
	told(t, "Of", e, api.OK)
	o, e := mem.Of(given)
	told(t, "Of once more", e, api.OK)
	m.Fill(0, 16, 0)
	told(t, "Lay", m.Lay(2, given[:4]), api.OK)
	m.Write(3, 1)
	if !slices.Equal(room, rising(500, 40)) {
		t.Errorf("what was handed in has changed: %v", room)
	}
	holds(t, "the other memory of the same list", o, rising(504, 16))
	for i := range room {
		room[i] = 77
	}
	holds(t, "the memory behind a change of the list", o, rising(504, 16))
	takes(t, m, 1, 6, 0, 504, 1, 506, 507, 0)

	words := rising(504, 16)
	answers := [][]uint32{o.Words(), o.Words()}
	for _, run := range [][2]int{{0, 16}, {0, 16}, {0, 3}, {3, 3}, {15, 1}, {16, 0}} {
		l, e := o.Take(run[0], run[1])
		told(t, "Take", e, api.OK)
		answers = append(answers, l)
	}
	for i, l := range answers {
		l = l[:cap(l)]
		for k := range l {
			if k >= len(answers[i]) && l[k] == uint32(9000) {
				t.Error("two answers share spare room")
			}
			l[k] = 9000
		}
		holds(t, "the memory behind a change of an answer", o, words)
		for _, later := range answers[i+1:] {
			if slices.Contains(later, 9000) {
				t.Error("two answers share words")
			}
		}
	}
}

// Memories made by New, Of and Clone have nothing in common (P5.10).
func TestMemoriesAreApart(t *testing.T) {
	one, other := made(t, 2), made(t, 2)
	third := one.Clone()
	fourth, _ := mem.Of(one.Words())
	all := []*mem.Memory{one, other, third, fourth}
	for i, m := range all {
		told(t, "Fill", m.Fill(0, 32, uint32(i+1)), api.OK)
	}
	for i, m := range all {
		holds(t, "a memory behind writes to the others", m, slices.Repeat([]uint32{uint32(i + 1)}, 32))
	}
}
