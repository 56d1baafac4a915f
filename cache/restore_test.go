package cache_test

import (
	"fmt"
	"math"
	"testing"

	"bulkhead/api"
	"bulkhead/cache"
)

// P7.5: what Restore lays is told by Lines in its orders, whatever was held before.
func TestRestore(t *testing.T) {
	for _, l := range [][][]int{
		{nil, nil, nil, nil},
		{{0}, nil, nil, nil},
		{{0, 4}, {1, 5}, {2, 6}, {3, 7}},
		{{4, 0}, {5, 1}, {6, 2}, {7, 3}},
		{nil, nil, nil, {4095, 3}},
		{{4092, 0}, {4093}, {4094, 4090}, {4095}},
		{{}, {1}, {}, {}},
	} {
		for _, c := range []*cache.Cache{cache.New(), touched(t, 0, 4, 1, 5, 2, 6, 3, 7)} {
			restores(t, c, api.OK, l...)
			if got := c.Lines(); fmt.Sprint(got) != fmt.Sprint(l) {
				t.Errorf("Lines: %v, want %v", got, l)
			}
			held := map[int]int{}
			for _, list := range l {
				for _, line := range list {
					held[line]++
				}
			}
			for at := range words {
				if c.Holds(at) != (held[at/lineWords] > 0) {
					t.Fatalf("behind Restore(%v): Holds(%d) is %v", l, at, c.Holds(at))
				}
			}
		}
	}
}

// P7.5: the orders are those of the use: the first line of a list is the one that goes.
func TestRestoreOrder(t *testing.T) {
	c := cache.New()
	restores(t, c, api.OK, []int{8, 0}, []int{1, 9}, []int{2}, nil)
	costs(t, c, 16, miss)
	costs(t, c, 20, miss)
	costs(t, c, 24, miss)
	costs(t, c, 28, miss)
	tells(t, c, "[0 4] [9 5] [2 6] [7]")
}

// P7.5: no list at all empties the cache; nil and empty are the same.
func TestRestoreNothing(t *testing.T) {
	for _, l := range [][][]int{nil, {}, {nil, nil, nil, nil}, {{}, {}, {}, {}}, {{}, nil, {}, nil}} {
		c := touched(t, 0, 4, 1, 2, 3)
		restores(t, c, api.OK, l...)
		tells(t, c, "[] [] [] []")
		holds(t, c, false, 0, 4, 8, 12, 16)
		costs(t, c, 0, miss)
	}
}

// refusals are lists that no cache holds.
func refusals() [][][]int {
	out := [][][]int{
		// Not just Sets lists, also where these would be without lines.
		{nil}, {nil, nil}, {nil, nil, nil}, {nil, nil, nil, nil, nil}, {{}, {}, {}, {}, {}, {}, {}, {}},
		{{0}}, {{0}, {1}, {2}}, {{0}, {1}, {2}, {3}, {4}}, make([][]int, 100),
		// More lines than Ways, also where the first ones of them would fit.
		{{0, 4, 8}, {}, {}, {}}, {{}, {1, 5, 9}, {}, {}}, {{}, {}, {2, 6, 10}, {}}, {{}, {}, {}, {3, 7, 11, 15}},
		{{0, 0, 0}, {}, {}, {}}, {make([]int, 100), {}, {}, {}},
		// Lines that are none; but for that they would be of the set.
		{{-4}, {}, {}, {}}, {{}, {-3}, {}, {}}, {{}, {}, {-2}, {}}, {{}, {}, {}, {-1}},
		{{4096}, {}, {}, {}}, {{}, {4097}, {}, {}}, {{}, {}, {4098}, {}}, {{}, {}, {}, {4099}},
		{{16384}, {}, {}, {}}, {{1 << 32}, {}, {}, {}}, {{math.MinInt}, {}, {}, {}}, {{}, {}, {}, {math.MaxInt}},
		{{0, 4096}, {}, {}, {}}, {{4096, 0}, {}, {}, {}}, {{}, {}, {}, {3, -1}}, {{}, {}, {}, {-1, 3}},
		// Lines that are twice there.
		{{4, 4}, {}, {}, {}}, {{0, 0}, {}, {}, {}}, {{}, {1, 1}, {}, {}}, {{}, {}, {6, 6}, {}}, {{}, {}, {}, {4095, 4095}},
	}
	// Lines of another set, alone, first and last.
	for s := range sets {
		for other := range sets {
			if other == s {
				continue
			}
			for _, list := range [][]int{{other}, {other, s}, {s, other}, {other + 4*sets}} {
				l := make([][]int, sets)
				l[s] = list
				out = append(out, l)
			}
		}
	}
	return out
}

// P7.5: all that Restore refuses, and that nothing has changed then.
func TestRestoreRefuses(t *testing.T) {
	c := touched(t, 0, 4, 1, 5, 6, 2, 7, 3)
	empty := cache.New()
	for _, l := range refusals() {
		restores(t, c, api.ErrCacheLines, l...)
		tells(t, c, "[0 4] [1 5] [6 2] [7 3]")
		restores(t, empty, api.ErrCacheLines, l...)
		tells(t, empty, "[] [] [] []")
	}
	costs(t, c, 0, hit)
	costs(t, c, 8*lineWords, miss)
	tells(t, c, "[0 8] [1 5] [6 2] [7 3]")
}

// P7.5: every line may be restored in its own set, and in no other.
func TestRestoreEachLine(t *testing.T) {
	c := cache.New()
	for line := -2 * sets; line < lines+2*sets; line++ {
		for s := range sets {
			l := make([][]int, sets)
			l[s] = []int{line}
			want := api.ErrCacheLines
			if line >= 0 && line < lines && line%sets == s {
				want = api.OK
			}
			restores(t, c, want, l...)
			if want == api.OK && !c.Holds(line*lineWords) {
				t.Errorf("Restore(%v): the line is not held", l)
			}
		}
	}
}
