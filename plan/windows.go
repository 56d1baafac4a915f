package plan

import "bulkhead/api"

// What a core can need at the most, in rounds; P14.9 says why.
const (
	frameRounds  = 4                // the frame's end: arriving, and leaving
	windowRounds = 2                // the switch at a window's end
	leastCall    = 1 + api.CostCall // the cycles of a call whose word is held
	callRounds   = 8                // a call itself, with two locks
	lockRounds   = 4                // another core that is ahead at a lock
)

// coreSpans tells the windows of one core, as far as there is such a core and its plan may be.
func coreSpans(c api.Config, core int) ([]api.Span, api.Errno) {
	if core < 0 || core >= len(c.Cores) {
		return nil, api.ErrPlanCore
	}
	if !mayBe(c.Cores[core]) {
		return nil, api.ErrArg
	}
	return lay(core, c.Cores[core]), api.OK
}

// lay tells when each window of a plan begins and ends.
func lay(core int, windows []api.Window) []api.Span {
	spans := make([]api.Span, len(windows))
	at := 0
	for i, w := range windows {
		end := at + w.Usable + w.Slack
		spans[i] = api.Span{Core: core, Window: i, From: at, To: end}
		at = end
	}
	return spans
}

// spansOf tells the windows of a partition, where the plans of all cores may be.
func spansOf(c api.Config, p int) []api.Span {
	var own []api.Span
	for core, windows := range c.Cores {
		for _, s := range lay(core, windows) {
			if windows[s.Window].Partition == p {
				own = append(own, s)
			}
		}
	}
	return own
}

// serves tells whether one of the windows is the partition's.
func serves(windows []api.Window, p int) bool {
	for _, w := range windows {
		if w.Partition == p {
			return true
		}
	}
	return false
}

// coreRounds tells how many rounds the windows of a core can take, of so many cores.
func coreRounds(windows []api.Window, cores int) int {
	sum := 0
	for _, w := range windows {
		calls := w.Usable/leastCall + 1
		sum += w.Usable + windowRounds + calls*(callRounds+lockRounds*cores)
	}
	return sum
}

func isPartition(c api.Config, p int) bool { return p >= 0 && p < len(c.Partitions) }

func allMayBe(c api.Config) bool {
	for _, windows := range c.Cores {
		if !mayBe(windows) {
			return false
		}
	}
	return true
}

func mayBe(windows []api.Window) bool {
	if len(windows) == 0 || len(windows) > api.MaxWindows {
		return false
	}
	for _, w := range windows {
		if !isLength(w.Usable) || !isLength(w.Slack) {
			return false
		}
	}
	return true
}

func isLength(cycles int) bool { return cycles >= 0 && cycles <= api.MaxMajor }

// allFill tells whether there is a frame, and the plan of each core fills it.
func allFill(c api.Config) bool {
	if c.Major < 1 || c.Major > api.MaxMajor {
		return false
	}
	for core, windows := range c.Cores {
		if !mayBe(windows) || lay(core, windows)[len(windows)-1].To != c.Major {
			return false
		}
	}
	return true
}
