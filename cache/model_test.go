package cache_test

import (
	"fmt"
	"math/rand/v2"
	"slices"
	"testing"

	"bulkhead/api"
	"bulkhead/cache"
)

// history is the row of lines that have been touched since a cache was empty last: all that it holds can be read off it.
type history []int

// held tells the lines of a set that must be held: the last ones of the row that differ, the least lately used first.
func (h history) held(s int) []int {
	var out []int
	for _, line := range slices.Backward(h) {
		if line%sets == s && !slices.Contains(out, line) && len(out) < ways {
			out = append(out, line)
		}
	}
	slices.Reverse(out)
	return out
}

func (h history) lines() [][]int {
	out := make([][]int, sets)
	for s := range out {
		out[s] = h.held(s)
	}
	return out
}

func (h history) holds(line int) bool { return slices.Contains(h.held(line%sets), line) }

// cost tells what a word of a line costs: a miss, if as many others of its set as Ways is stand behind its last touch.
func (h history) cost(line int) int {
	var others []int
	for _, l := range slices.Backward(h) {
		if l == line {
			break
		}
		if l%sets == line%sets && !slices.Contains(others, l) {
			others = append(others, l)
		}
	}
	if slices.Contains(h, line) && len(others) < ways {
		return hit
	}
	return miss
}

// same asks a cache for its lines, and for the first and the last words of some.
func (h history) same(t *testing.T, c *cache.Cache, some []int) {
	t.Helper()
	if got, want := fmt.Sprint(c.Lines()), fmt.Sprint(h.lines()); got != want {
		t.Fatalf("Lines: %s, want %s", got, want)
	}
	for _, line := range some {
		for _, at := range []int{line * lineWords, line*lineWords + 3} {
			if c.Holds(at) != h.holds(line) {
				t.Fatalf("Holds(%d): %v behind %v", at, c.Holds(at), h)
			}
		}
	}
}

// anyLines draws lists that a cache can hold.
func anyLines(r *rand.Rand, some []int) [][]int {
	out := make([][]int, sets)
	for _, i := range r.Perm(len(some)) {
		s := some[i] % sets
		if len(out[s]) < r.IntN(ways+1) {
			out[s] = append(out[s], some[i])
		}
	}
	return out
}

// P7.2 to P7.5, P7.7: long rows of calls, held against what can be read off the row of touches.
func TestHistory(t *testing.T) {
	low := []int{0, 1, 2, 3, 4, 5, 6, 7, 8, 9, 12, 16}
	high := []int{4095, 4094, 4091, 4087, 4083, 0, 4, 2048, 1024, 3}
	for seed := range uint64(20) {
		r := rand.New(rand.NewPCG(seed, 7))
		some := low
		if seed%2 == 1 {
			some = high
		}
		c, h := cache.New(), history{}
		for range 2000 {
			switch r.IntN(60) {
			case 0:
				c.Flush()
				h = nil
			case 1:
				l := anyLines(r, some)
				restores(t, c, api.OK, l...)
				h = slices.Concat(l...)
			case 2:
				restores(t, c, api.ErrCacheLines, refusals()[r.IntN(len(refusals()))]...)
			case 3:
				refuses(t, c, noWords[r.IntN(len(noWords))], api.ErrCacheAt)
			default:
				line := some[r.IntN(len(some))]
				costs(t, c, line*lineWords+r.IntN(lineWords), h.cost(line))
				h = append(h, line)
			}
			h.same(t, c, some)
		}
	}
}

// P7.8: the touches of each set cost what they cost without those of the other sets.
func TestSetsApart(t *testing.T) {
	for seed := range uint64(20) {
		r := rand.New(rand.NewPCG(seed, 8))
		var alone [sets]*cache.Cache
		laid := anyLines(r, []int{0, 4, 8, 1, 5, 9, 2, 6, 10, 3, 7, 11})
		all := cache.New()
		restores(t, all, api.OK, laid...)
		for s := range alone {
			alone[s] = cache.New()
			own := make([][]int, sets)
			own[s] = laid[s]
			restores(t, alone[s], api.OK, own...)
		}
		for range 1000 {
			if r.IntN(100) == 0 {
				all.Flush()
				for _, c := range alone {
					c.Flush()
				}
			}
			at := r.IntN(16 * lineWords)
			want, _ := alone[at/lineWords%sets].Touch(at)
			costs(t, all, at, want)
		}
		for s, c := range alone {
			for other, list := range c.Lines() {
				if other == s && !slices.Equal(list, all.Lines()[s]) || other != s && len(list) > 0 {
					t.Errorf("set %d alone: %v, with all others: %v", s, c.Lines(), all.Lines())
				}
			}
		}
	}
}

// P7.9: caches that tell the same Lines answer alike, however each of them has come to hold these.
func TestAgain(t *testing.T) {
	for seed := range uint64(50) {
		r := rand.New(rand.NewPCG(seed, 9))
		first := cache.New()
		for range r.IntN(40) {
			first.Touch(r.IntN(20 * lineWords))
		}
		told := first.Lines()
		restored := touched(t, 1, 5, 2, 3, 4080)
		restores(t, restored, api.OK, told...)
		again := touched(t, 7, 6, 5)
		again.Flush()
		for _, list := range slices.Backward(told) {
			for _, line := range list {
				again.Touch(line*lineWords + r.IntN(lineWords))
			}
		}
		for range 200 {
			at := r.IntN(24*lineWords) - 4
			cost, e := first.Touch(at)
			for _, c := range []*cache.Cache{restored, again} {
				if got, err := c.Touch(at); got != cost || err != e {
					t.Fatalf("Touch(%d): %d, error %d, want %d, error %d", at, got, err, cost, e)
				}
				if fmt.Sprint(c.Lines()) != fmt.Sprint(first.Lines()) || c.Holds(at) != first.Holds(at) {
					t.Fatalf("behind Touch(%d): %v, want %v", at, c.Lines(), first.Lines())
				}
			}
		}
	}
}

// Two caches have nothing in common: what is touched in one does not show in another.
func TestCachesApart(t *testing.T) {
	a := touched(t, 0, 1, 2, 3)
	b := cache.New()
	restores(t, b, api.OK, a.Lines()...)
	costs(t, b, 16, miss)
	costs(t, b, 32, miss)
	b.Touch(20)
	tells(t, a, "[0] [1] [2] [3]")
	b.Flush()
	tells(t, a, "[0] [1] [2] [3]")
	a.Flush()
	costs(t, b, 0, miss)
	tells(t, a, "[] [] [] []")
	tells(t, b, "[0] [] [] []")
}
