package cache_test

import (
	"fmt"
	"math"
	"slices"
	"testing"

	"bulkhead/api"
	"bulkhead/cache"
)

// The numbers as the document prints them.
const (
	hit       = 1
	miss      = 7
	words     = 16384
	lines     = 4096
	sets      = 4
	ways      = 2
	lineWords = 4
)

// Words that no memory has.
var noWords = []int{-1, -2, -3, -4, -5, -16, -words, words, words + 1, words + 4, 2 * words, 1 << 32, math.MinInt, math.MaxInt}

// costs touches a word and asks for what it costs.
func costs(t *testing.T, c *cache.Cache, at, want int) {
	t.Helper()
	if got, e := c.Touch(at); got != want || e != api.OK {
		t.Errorf("Touch(%d): %d, error %d, want %d", at, got, e, want)
	}
}

// refuses touches what must be no word.
func refuses(t *testing.T, c *cache.Cache, at int, want api.Errno) {
	t.Helper()
	if got, e := c.Touch(at); got != 0 || e != want {
		t.Errorf("Touch(%d): %d, error %d, want 0, error %d", at, got, e, want)
	}
}

// holds asks whether words' lines are held.
func holds(t *testing.T, c *cache.Cache, want bool, at ...int) {
	t.Helper()
	for _, a := range at {
		if got := c.Holds(a); got != want {
			t.Errorf("Holds(%d): %v, want %v", a, got, want)
		}
	}
}

// tells asks for the lines of all sets: "[0] [1] [] []".
func tells(t *testing.T, c *cache.Cache, want string) {
	t.Helper()
	if got := fmt.Sprint(c.Lines()); got != "["+want+"]" {
		t.Errorf("Lines: %s, want [%s]", got, want)
	}
}

// restores makes a cache hold lines and asks for the error.
func restores(t *testing.T, c *cache.Cache, want api.Errno, l ...[]int) {
	t.Helper()
	if e := c.Restore(l); e != want {
		t.Errorf("Restore(%v): error %d, want %d", l, e, want)
	}
}

// touched makes a cache in which lines are touched, each by its first word.
func touched(t *testing.T, line ...int) *cache.Cache {
	t.Helper()
	c := cache.New()
	for _, l := range line {
		if _, e := c.Touch(l * lineWords); e != api.OK {
			t.Fatalf("Touch(%d): error %d", l*lineWords, e)
		}
	}
	return c
}

// The chapter's examples, row by row.
func TestExamples(t *testing.T) {
	c := cache.New()
	costs(t, c, 0, 7)
	costs(t, c, 3, 1)
	costs(t, c, 4, 7)
	tells(t, c, "[0] [1] [] []")

	costs(t, c, 16, 7)
	costs(t, c, 32, 7)
	tells(t, c, "[4 8] [1] [] []")

	costs(t, c, 19, 1)
	holds(t, c, false, 0)
	holds(t, c, true, 35)
	tells(t, c, "[8 4] [1] [] []")

	costs(t, c, 0, 7)
	tells(t, c, "[4 0] [1] [] []")

	refuses(t, c, -1, api.ErrCacheAt)
	refuses(t, c, 16384, api.ErrCacheAt)
	costs(t, c, 16383, 7)
	tells(t, c, "[4 0] [1] [] [4095]")

	restores(t, c, api.ErrCacheLines, []int{4, 4}, nil, nil, nil)
	restores(t, c, api.ErrCacheLines, []int{1}, nil, nil, nil)
	restores(t, c, api.ErrCacheLines, nil, nil, nil)
	restores(t, c, api.ErrCacheLines, []int{4, 8, 12}, nil, nil, nil)
	tells(t, c, "[4 0] [1] [] [4095]")

	restores(t, c, api.OK, []int{8, 0}, nil, []int{2}, nil)
	costs(t, c, 8, 1)
	tells(t, c, "[8 0] [] [2] []")

	restores(t, c, api.OK)
	holds(t, c, false, 8)
	tells(t, c, "[] [] [] []")
}

// The errors' numbers, the limits and costs are the document's.
func TestNumbers(t *testing.T) {
	if api.ErrNil != 3 || api.ErrCacheAt != 70 || api.ErrCacheLines != 71 {
		t.Error("the errors' numbers")
	}
	if api.MaxFrames*api.FrameWords != words || words/api.LineWords != lines || api.Sets != sets || api.Ways != ways {
		t.Error("the limits")
	}
	if api.CostHit != hit || api.CostMiss != miss {
		t.Error("the costs")
	}
}

// P7.1: a new cache holds no line, and is another one each time.
func TestNew(t *testing.T) {
	c := cache.New()
	if c == nil {
		t.Fatal("New: nil")
	}
	tells(t, c, "[] [] [] []")
	for at := range words {
		if c.Holds(at) {
			t.Fatalf("a new cache holds the word %d", at)
		}
	}
	other := cache.New()
	costs(t, c, 0, miss)
	tells(t, other, "[] [] [] []")
	costs(t, other, 0, miss)
}

// P7.2: each word of a line costs by that line, and no word of a line beside it does.
func TestTouchLine(t *testing.T) {
	for _, line := range []int{0, 1, 2, 3, 4, 1023, 1024, 4094, 4095} {
		for first := range lineWords {
			c := cache.New()
			costs(t, c, line*lineWords+first, miss)
			for at := line * lineWords; at < (line+1)*lineWords; at++ {
				holds(t, c, true, at)
				costs(t, c, at, hit)
			}
			holds(t, c, false, line*lineWords-1, (line+1)*lineWords)
			want := make([][]int, sets)
			want[line%sets] = []int{line}
			if got := c.Lines(); fmt.Sprint(got) != fmt.Sprint(want) {
				t.Errorf("Lines: %v, want %v", got, want)
			}
		}
	}
}

// P7.2: the least lately used line goes, not the one that came first; a hit makes a line the latest.
func TestTouchOrder(t *testing.T) {
	c := touched(t, 2, 6)
	tells(t, c, "[] [] [2 6] []")
	costs(t, c, 9, hit)
	tells(t, c, "[] [] [6 2] []")
	costs(t, c, 40, miss)
	tells(t, c, "[] [] [2 10] []")
	holds(t, c, false, 24, 27)
	costs(t, c, 43, hit)
	tells(t, c, "[] [] [2 10] []")
	costs(t, c, 24, miss)
	tells(t, c, "[] [] [10 6] []")
}

// P7.2: every word of a memory can be touched, and a line is of the set by its number.
func TestTouchAll(t *testing.T) {
	c := cache.New()
	for at := range words {
		want := hit
		if at%lineWords == 0 {
			want = miss
		}
		costs(t, c, at, want)
		own := c.Lines()[at/lineWords%sets]
		if len(own) == 0 || own[len(own)-1] != at/lineWords {
			t.Fatalf("behind Touch(%d): %v", at, c.Lines())
		}
	}
	tells(t, c, "[4088 4092] [4089 4093] [4090 4094] [4091 4095]")
}

// P7.2, P7.3: what is no word is refused, and nothing changes.
func TestNoWord(t *testing.T) {
	full := touched(t, 0, 4, 1, 5, 2, 6, 4091, 4095)
	for _, c := range []*cache.Cache{cache.New(), full} {
		before := fmt.Sprint(c.Lines())
		for _, at := range noWords {
			refuses(t, c, at, api.ErrCacheAt)
			holds(t, c, false, at)
		}
		if got := fmt.Sprint(c.Lines()); got != before {
			t.Errorf("Lines: %s, want %s", got, before)
		}
	}
}

// P7.3: Holds is no use of a line, whether it is held or not.
func TestHolds(t *testing.T) {
	c := touched(t, 3, 7)
	holds(t, c, true, 12, 13, 14, 15, 28, 31, 12)
	holds(t, c, false, 11, 16, 27, 32, 0, 44)
	tells(t, c, "[] [] [] [3 7]")
	costs(t, c, 44, miss)
	tells(t, c, "[] [] [] [7 11]")
	holds(t, c, false, 12, 15)
}

// P7.4: behind a Flush no line is held, of no set; the cache can be used on.
func TestFlush(t *testing.T) {
	c := touched(t, 0, 4, 1, 5, 2, 6, 3, 7)
	tells(t, c, "[0 4] [1 5] [2 6] [3 7]")
	c.Flush()
	tells(t, c, "[] [] [] []")
	for at := range 8 * lineWords {
		holds(t, c, false, at)
	}
	for line := range 8 {
		costs(t, c, line*lineWords, miss)
		costs(t, c, line*lineWords, hit)
	}
	tells(t, c, "[0 4] [1 5] [2 6] [3 7]")
	c.Flush()
	c.Flush()
	tells(t, c, "[] [] [] []")
}

// P7.6: a nil cache; its error is ahead of the others.
func TestNil(t *testing.T) {
	var c *cache.Cache
	for _, at := range append([]int{0, 5, words - 1}, noWords...) {
		refuses(t, c, at, api.ErrNil)
		holds(t, c, false, at)
	}
	if got := c.Lines(); len(got) != 0 {
		t.Errorf("Lines: %v", got)
	}
	restores(t, c, api.ErrNil)
	restores(t, c, api.ErrNil, nil, nil, nil, nil)
	restores(t, c, api.ErrNil, []int{1}, nil, nil)
	c.Flush()
}

// P7.7: the latest line of a set costs a hit, in whichever set and whatever has been before.
func TestLatest(t *testing.T) {
	for s := range sets {
		c := cache.New()
		for l := s; l < 40; l += sets {
			costs(t, c, l*lineWords, miss)
			costs(t, c, l*lineWords+3, hit)
			costs(t, c, l*lineWords+1, hit)
		}
	}
}

// P7.7: behind as many other lines of its set as Ways is, a word costs a miss; behind fewer it does not.
func TestBehindOthers(t *testing.T) {
	for s := range sets {
		c := touched(t, s, s+4)
		costs(t, c, s*lineWords, hit)
		costs(t, c, (s+8)*lineWords, miss)
		costs(t, c, (s+8)*lineWords, hit)
		costs(t, c, s*lineWords, hit)
		for other := 1; other <= ways; other++ {
			costs(t, c, (s+12+other*sets)*lineWords, miss)
		}
		costs(t, c, s*lineWords, miss)
	}
}

// R5: the lists that Lines tells are new each time, apart from one another and from what the cache keeps, the room behind their ends too.
func TestLinesAreNew(t *testing.T) {
	c := touched(t, 0, 4, 1, 5, 2, 3, 7)
	got, again := c.Lines(), c.Lines()
	for _, list := range got[:cap(got)] {
		room := list[:cap(list)]
		for i := range room {
			room[i] = -1
		}
	}
	clear(got[:cap(got)])
	tells(t, c, "[0 4] [1 5] [2] [3 7]")
	if fmt.Sprint(again) != "[[0 4] [1 5] [2] [3 7]]" {
		t.Errorf("another answer: %v", again)
	}
	for s := range again {
		_ = append(again[s], 99)
	}
	if fmt.Sprint(again) != "[[0 4] [1 5] [2] [3 7]]" {
		t.Errorf("appended to one list, all tell %v", again)
	}
	costs(t, c, 0, hit)
	if fmt.Sprint(again) != "[[0 4] [1 5] [2] [3 7]]" {
		t.Errorf("behind a Touch an older answer tells %v", again)
	}
}

// R5: the lists that are handed to Restore are neither changed nor kept.
func TestRestoreKeepsNothing(t *testing.T) {
	room := []int{0, 4, 90, 91, 92}
	given := [][]int{room[:2], {1}, {}, {7, 3}, {93}}[:sets]
	c := touched(t, 8, 12)
	if e := c.Restore(given); e != api.OK {
		t.Fatalf("Restore: error %d", e)
	}
	c.Touch(8 * lineWords)
	c.Touch(2 * lineWords)
	if fmt.Sprint(given[:5]) != "[[0 4] [1] [] [7 3] [93]]" || !slices.Equal(room, []int{0, 4, 90, 91, 92}) {
		t.Errorf("what was given is %v, %v", given[:5], room)
	}
	given[1][0], given[3] = 5, nil
	room[1] = 16
	tells(t, c, "[4 8] [1] [2] [7 3]")
	costs(t, c, 4, hit)
	costs(t, c, 16, hit)
}
