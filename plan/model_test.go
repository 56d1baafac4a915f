package plan_test

import (
	"math/rand/v2"
	"slices"
	"testing"

	"bulkhead/api"
	"bulkhead/plan"
)

// model tells of each cycle of a core in which window it lies: a plan written out cycle by cycle.
func model(windows []api.Window) (whose []int) {
	for i, w := range windows {
		whose = append(whose, slices.Repeat([]int{i}, w.Usable+w.Slack)...)
	}
	return whose
}

// drawn is a configuration with windows for four partitions, all plans of which may be.
func drawn(r *rand.Rand) api.Config {
	c := made(1+r.IntN(60), 5)
	for range 1 + r.IntN(api.MaxCores) {
		var windows []api.Window
		for range 1 + r.IntN(api.MaxWindows) {
			windows = append(windows, win(r.IntN(6)-1, max(0, r.IntN(12)-3), max(0, r.IntN(9)-4)))
		}
		c.Cores = append(c.Cores, windows)
	}
	return c
}

// filled is a configuration with one partition to a core at the most, all plans of which fill the frame.
func filled(r *rand.Rand) api.Config {
	c := made(1+r.IntN(60), 5)
	for core := range 1 + r.IntN(api.MaxCores) {
		left := c.Major
		var windows []api.Window
		for range r.IntN(api.MaxWindows) {
			w := win(r.IntN(2)*(core+1)-1, r.IntN(left/4+1), r.IntN(left/4+1))
			left -= w.Usable + w.Slack
			windows = append(windows, w)
		}
		c.Cores = append(c.Cores, append(windows, win(r.IntN(2)*(core+1)-1, left, 0)))
	}
	return c
}

// P14.8: each time lies in just one window, and At, Starts and Offset agree on it.
func TestEachTimeInOneWindow(t *testing.T) {
	r := rand.New(rand.NewPCG(14, 1))
	for range 300 {
		c := drawn(r)
		for core, windows := range c.Cores {
			whose := model(windows)
			starts, e := plan.Starts(c, core)
			if e != api.OK || len(starts) != len(windows) {
				t.Fatalf("Starts of %v = %v, %d", windows, starts, e)
			}
			for time, window := range whose {
				end := slices.IndexFunc(whose, func(w int) bool { return w > window })
				if end < 0 {
					end = len(whose)
				}
				want := api.Place{Window: window, Partition: windows[window].Partition, Offset: time - slices.Index(whose, window), End: end}
				got, e := plan.At(c, core, time)
				if got != want || e != api.OK || starts[got.Window]+got.Offset != time {
					t.Fatalf("At(%v, %d) = %v, %d, want %v; Starts %v", windows, time, got, e, want, starts)
				}
			}
			if _, e := plan.At(c, core, len(whose)); e != api.ErrPlanTime {
				t.Fatalf("At(%v) at its end: %d", windows, e)
			}
		}
	}
}

// P14.4, P14.8: a partition's spans are just the cycles of its windows, and do not meet on a core.
func TestSpansDoNotMeet(t *testing.T) {
	r := rand.New(rand.NewPCG(14, 2))
	for range 300 {
		c := drawn(r)
		for p := range c.Partitions {
			spans, e := plan.Spans(c, p)
			count := 0
			for core, windows := range c.Cores {
				whose := model(windows)
				got := make([]int, len(whose))
				for _, s := range spans {
					if s.Core != core {
						continue
					}
					if windows[s.Window].Partition != p {
						t.Fatalf("Spans(%v, %d): %v is another's", c.Cores, p, s)
					}
					for time := s.From; time < s.To; time++ {
						got[time]++
						if whose[time] != s.Window {
							t.Fatalf("Spans(%v, %d): %v is not there", c.Cores, p, s)
						}
					}
				}
				for time, n := range got {
					if (n == 1) != (windows[whose[time]].Partition == p) || n > 1 {
						t.Fatalf("Spans(%v, %d): core %d at %d: %d spans", c.Cores, p, core, time, n)
					}
				}
				for _, w := range windows {
					if w.Partition == p {
						count++
					}
				}
			}
			ordered := slices.IsSortedFunc(spans, func(a, b api.Span) int { return (a.Core-b.Core)*100 + a.Window - b.Window })
			if e != api.OK || len(spans) != count || !ordered {
				t.Fatalf("Spans(%v, %d) = %v, %d, want %d", c.Cores, p, spans, e, count)
			}
		}
	}
}

// P14.5, P14.6: what a partition can use, and how long it waits, counted cycle by cycle over two frames.
func TestShareAndGapAreCounted(t *testing.T) {
	r := rand.New(rand.NewPCG(14, 3))
	for range 500 {
		c := filled(r)
		for p := range c.Partitions {
			usable, longest := 0, 0
			if n, _ := plan.Core(c, p); n < 0 {
				longest = c.Major
			}
			for _, windows := range c.Cores {
				if !slices.ContainsFunc(windows, func(w api.Window) bool { return w.Partition == p }) {
					continue
				}
				wait, met := 0, false
				for _, w := range append(slices.Clone(windows), windows...) {
					if w.Partition != p {
						wait += w.Usable + w.Slack
						continue
					}
					if met {
						longest = max(longest, wait)
					}
					met, wait = true, 0
					usable += w.Usable
				}
			}
			if got, e := plan.Share(c, p); got != float64(usable/2)/float64(c.Major) || e != api.OK {
				t.Fatalf("Share(%v, %d) = %v, %d, want %d of %d", c.Cores, p, got, e, usable/2, c.Major)
			}
			if got, e := plan.Gap(c, p); got != longest || e != api.OK {
				t.Fatalf("Gap(%v, %d) = %d, %d, want %d", c.Cores, p, got, e, longest)
			}
		}
	}
}

// P14.9: the rounds are enough for a frame: as many picks as windows, instructions and calls can need.
func TestRoundsAreEnough(t *testing.T) {
	r := rand.New(rand.NewPCG(14, 4))
	for range 300 {
		c := drawn(r)
		n := len(c.Cores)
		got := plan.Rounds(c)
		best := 0
		for _, windows := range c.Cores {
			need := 0
			for _, w := range windows {
				calls := 1
				for cycles := 25; cycles <= w.Usable; cycles += 25 {
					calls++
				}
				need += w.Usable + 2
				for range calls {
					need += 8 + 4*n
				}
			}
			best = max(best, need)
		}
		if got != best+4 {
			t.Fatalf("Rounds(%v) = %d, want %d", c.Cores, got, best+4)
		}
	}
}
