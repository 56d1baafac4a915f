package admit

import (
	"slices"

	"bulkhead/api"
)

// partitionQuestions are what is asked of a partition.
func partitionQuestions(c api.Config, p int) []question {
	partition := c.Partitions[p]
	here := api.Where{First: p, Second: unnamed}
	return []question{
		func() fault {
			return unless(isName(partition.Name) && !isTaken(partition.Name, c.Partitions[:p]), api.ErrAdmitName, here)
		},
		func() fault {
			may := within(partition.Action, api.ActionHalt, api.ActionCold) && within(partition.Restarts, 0, api.MaxRestarts)
			return unless(may, api.ErrAdmitAction, here)
		},
		func() fault {
			may := within(partition.Inputs, 0, api.MaxInputs) && within(partition.Outputs, 0, api.MaxOutputs)
			return unless(may, api.ErrAdmitDevice, here)
		},
		func() fault {
			return unless(within(len(partition.Regions), 1, api.MaxRegions), api.ErrAdmitRegions, here)
		},
		func() fault {
			return oneByOne(len(partition.Regions), func(i int) []question { return regionQuestions(c, p, i) })
		},
		func() fault { return unless(canBegin(partition), api.ErrAdmitEntry, here) },
		func() fault { return unless(len(partition.Ports) <= api.MaxPorts, api.ErrAdmitPorts, here) },
		func() fault {
			return oneByOne(len(partition.Ports), func(q int) []question { return portQuestions(c, p, q) })
		},
	}
}

// regionQuestions are what is asked of a partition's region.
func regionQuestions(c api.Config, p, i int) []question {
	region, ahead := c.Partitions[p].Regions[i], c.Partitions[p].Regions[:i]
	here := api.Where{First: p, Second: i}
	return []question{
		func() fault { return unless(isRegion(region, c.Frames), api.ErrAdmitRegion, here) },
		func() fault { return unless(!anyMeets(ahead, pagesOf, pagesOf(region)), api.ErrAdmitPages, here) },
		func() fault { return unless(!anyMeets(ahead, framesOf, framesOf(region)), api.ErrAdmitShared, here) },
		func() fault {
			taken := slices.ContainsFunc(c.Partitions[:p], func(other api.Partition) bool {
				return anyMeets(other.Regions, framesOf, framesOf(region))
			})
			return unless(!taken, api.ErrAdmitShared, here)
		},
	}
}

// portQuestions are what is asked of a partition's port.
func portQuestions(c api.Config, p, q int) []question {
	port := c.Partitions[p].Ports[q]
	return []question{
		func() fault {
			return unless(within(port.Channel, 0, len(c.Channels)-1), api.ErrAdmitPort, api.Where{First: p, Second: q})
		},
	}
}

// isRegion tells whether a region lies in the space and in a memory of so many frames. Pages are held against what is left of both, for a sum could come round.
func isRegion(r api.Region, frames int) bool {
	return within(r.Page, 0, api.Pages-1) && within(r.Pages, 1, api.Pages-r.Page) &&
		r.Frame >= 0 && r.Pages <= frames-r.Frame &&
		within(r.Rights, 1, api.RightRead|api.RightWrite|api.RightRun)
}

// canBegin tells whether a partition may run the word at which it begins.
func canBegin(partition api.Partition) bool {
	if !within(partition.Entry, 0, api.Space-1) {
		return false
	}
	page := run{first: partition.Entry / api.FrameWords, size: 1}
	return slices.ContainsFunc(partition.Regions, func(r api.Region) bool {
		return r.Rights&api.RightRun != 0 && pagesOf(r).meets(page)
	})
}

// isTaken tells whether one of the partitions has the name.
func isTaken(name string, partitions []api.Partition) bool {
	return slices.ContainsFunc(partitions, func(p api.Partition) bool { return p.Name == name })
}

// isName tells whether a text may be a partition's name.
func isName(s string) bool {
	if len(s) < 1 || len(s) > api.MaxName || !isLetter(s[0]) {
		return false
	}
	for i := range len(s) {
		if b := s[i]; !isLetter(b) && (b < '0' || b > '9') && b != '-' {
			return false
		}
	}
	return true
}

// isLetter tells whether a byte is one of a to z.
func isLetter(b byte) bool { return b >= 'a' && b <= 'z' }
