package admit

import (
	"slices"

	"bulkhead/api"
)

// nobody is whose a window is that no partition has.
const nobody = -1

// coreQuestions are what is asked of a core.
func coreQuestions(c api.Config, n int) []question {
	windows := c.Cores[n]
	here := api.Where{First: n, Second: unnamed}
	return []question{
		func() fault { return unless(within(len(windows), 1, api.MaxWindows), api.ErrAdmitWindows, here) },
		func() fault {
			return oneByOne(len(windows), func(i int) []question { return windowQuestions(c, n, i) })
		},
		func() fault { return unless(cycles(windows) == c.Major, api.ErrAdmitTiles, here) },
	}
}

// windowQuestions are what is asked of a core's window.
func windowQuestions(c api.Config, n, i int) []question {
	w := c.Cores[n][i]
	here := api.Where{First: n, Second: i}
	return []question{
		func() fault {
			may := within(w.Partition, nobody, len(c.Partitions)-1) && within(w.Usable, 1, api.MaxMajor)
			return unless(may, api.ErrAdmitWindow, here)
		},
		func() fault { return unless(within(w.Slack, api.LeastSlack, api.MaxMajor), api.ErrAdmitSlack, here) },
		func() fault { return unless(!hasWindow(c.Cores[:n], w.Partition), api.ErrAdmitSplit, here) },
	}
}

// hasWindow tells whether one of the cores has a window of the partition; of nobody's windows all may have some.
func hasWindow(cores [][]api.Window, p int) bool {
	if p == nobody {
		return false
	}
	return slices.ContainsFunc(cores, func(windows []api.Window) bool {
		return slices.ContainsFunc(windows, func(w api.Window) bool { return w.Partition == p })
	})
}

// cycles tells how long windows are together, usable cycles and slack.
func cycles(windows []api.Window) int {
	sum := 0
	for _, w := range windows {
		sum += w.Usable + w.Slack
	}
	return sum
}
