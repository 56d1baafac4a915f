package admit

import (
	"bulkhead/api"
	"bulkhead/layout"
)

// questions are all that are asked of a configuration, in the order in which what is wrong is told. How many there are is asked first, so that what is gone through is short.
func questions(c api.Config) []question {
	all := api.Where{First: unnamed, Second: unnamed}
	return []question{
		func() fault { return unless(within(c.Frames, 1, api.MaxFrames), api.ErrAdmitFrames, all) },
		func() fault { return unless(within(c.Major, 1, api.MaxMajor), api.ErrAdmitMajor, all) },
		func() fault { return unless(within(len(c.Cores), 1, api.MaxCores), api.ErrAdmitCores, all) },
		func() fault {
			return unless(within(len(c.Partitions), 1, api.MaxPartitions), api.ErrAdmitPartitions, all)
		},
		func() fault { return unless(len(c.Channels) <= api.MaxChannels, api.ErrAdmitChannels, all) },
		func() fault {
			return oneByOne(len(c.Partitions), func(p int) []question { return partitionQuestions(c, p) })
		},
		func() fault {
			return oneByOne(len(c.Channels), func(n int) []question { return channelQuestions(c, n) })
		},
		func() fault {
			return oneByOne(len(c.Cores), func(n int) []question { return coreQuestions(c, n) })
		},
		func() fault { return unless(hasKernel(c), api.ErrAdmitKernel, all) },
	}
}

// hasKernel tells whether the kernel has an area in the memory that is its own, and wide enough for its words.
func hasKernel(c api.Config) bool {
	if !within(c.Kernel, 0, c.Frames-1) || !within(c.Room, 1, c.Frames-c.Kernel) {
		return false
	}
	area := run{first: c.Kernel, size: c.Room}
	for _, partition := range c.Partitions {
		if anyMeets(partition.Regions, framesOf, area) {
			return false
		}
	}
	// Nothing that layout refuses comes here; if it did, its words would have no place.
	need, e := layout.Need(c)
	return e == api.OK && need <= c.Room
}
