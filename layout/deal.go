package layout

import "bulkhead/api"

// How many words the kernel's items have whose size is always the same.
const (
	barrierWords = 2                 // how many have come; the epoch
	lockWords    = 2                 // the next ticket; whose turn it is
	saveWords    = api.Registers + 1 // the registers; PC
	stateWords   = 5                 // the state, restarts, the last trap, its PC, words told
)

// tables is how many entries a root has, and so how many tables there can be.
const tables = api.Pages / api.FrameWords

// deal hands out the next words to somebody, and tells the first of them.
type deal func(whose api.Owner, words int) int

// begin is the first word of the kernel's area.
func begin(c api.Config) int { return api.FrameWords * c.Kernel }

// countFrom deals words one behind the other, from a first one on.
func countFrom(at int) deal {
	return func(_ api.Owner, words int) int {
		first := at
		at += words
		return first
	}
}

// lay has all words of the kernel's area dealt, in the order in which they lie, of a configuration that can be laid out.
func lay(c api.Config, next deal) api.Layout {
	l := api.Layout{
		Barrier:    next(api.Owner{Kind: api.OwnBarrier}, barrierWords),
		Partitions: make([]api.PartitionPlace, len(c.Partitions)),
		Channels:   make([]api.ChannelPlace, len(c.Channels)),
	}
	for p := range c.Partitions {
		l.Partitions[p] = layPartition(p, next)
	}
	for n := range c.Channels {
		l.Channels[n] = layChannel(c, n, next)
	}
	fillFrame(next)
	for p, partition := range c.Partitions {
		l.Partitions[p].Root, l.Partitions[p].Tables = layTables(p, partition.Regions, next)
	}
	l.End = here(next) / api.FrameWords
	return l
}

// layPartition lays what the kernel keeps of a partition, but for its tables.
func layPartition(p int, next deal) api.PartitionPlace {
	lock := next(api.Owner{Kind: api.OwnLock, Index: p}, lockWords)
	save := next(api.Owner{Kind: api.OwnSave, Index: p}, saveWords)
	state := next(api.Owner{Kind: api.OwnState, Index: p}, stateWords)
	return api.PartitionPlace{Lock: lock, Save: save, State: state}
}

// layChannel lays a channel's lock, its stage and the ports of its destinations.
func layChannel(c api.Config, n int, next deal) api.ChannelPlace {
	s := shape(c.Channels[n])
	stageSize, portSize := s.stage, s.port
	sources, dests := ends(c, n)
	lock := next(api.Owner{Kind: api.OwnChannel, Index: n}, lockWords)
	stage := next(api.Owner{Kind: api.OwnStage, Index: n}, stageSize())
	for i, d := range dests {
		dests[i].At = next(api.Owner{Kind: api.OwnPort, Index: d.Partition, Port: d.Port}, portSize())
	}
	return api.ChannelPlace{Lock: lock, Stage: stage, Partition: sources[0].Partition, Port: sources[0].Port, Dests: dests}
}

// layTables lays a partition's root and its tables, and tells their frames.
func layTables(p int, regions []api.Region, next deal) (root int, frames []int) {
	frame := func() int {
		return next(api.Owner{Kind: api.OwnTable, Index: p}, api.FrameWords) / api.FrameWords
	}
	root = frame()
	for t := range tables {
		if hasTable(regions, t) {
			frames = append(frames, frame())
		}
	}
	return root, frames
}

// hasTable tells whether a region has one of the pages that the table t names.
func hasTable(regions []api.Region, t int) bool {
	first := t * api.FrameWords
	for _, r := range regions {
		if r.Page < first+api.FrameWords && first < r.Page+r.Pages {
			return true
		}
	}
	return false
}

// here tells the word that is dealt next.
func here(next deal) int { return next(api.Owner{}, 0) }

// fillFrame leaves to nobody what is left of a frame that has begun.
func fillFrame(next deal) {
	over := here(next) % api.FrameWords
	if over > 0 {
		next(api.Owner{}, api.FrameWords-over)
	}
}
