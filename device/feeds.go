package device

import (
	"cmp"
	"maps"
	"slices"

	"bulkhead/api"
)

// moment is a frame of time as one partition has it.
type moment struct{ epoch, partition int }

// tidings are the words that devices tell, by whom and when.
type tidings map[moment][]uint32

// tidingsOf gathers what feeds say; false: they may not be.
func tidingsOf(c api.Config, feeds []api.Feed) (tidings, bool) {
	out := make(tidings, len(feeds))
	for _, f := range feeds {
		if _, twice := out[momentOf(f)]; twice || !mayBe(c, f) {
			return nil, false
		}
		out[momentOf(f)] = copied(f.Words)
	}
	// One without words stands there till now, so that a second one of its moment is found.
	for _, f := range feeds {
		if len(f.Words) == 0 {
			delete(out, momentOf(f))
		}
	}
	return out, true
}

// momentOf tells when a feed is told, and whom.
func momentOf(f api.Feed) moment { return moment{epoch: f.Epoch, partition: f.Partition} }

// mayBe tells whether a feed by itself may be.
func mayBe(c api.Config, f api.Feed) bool {
	return f.Partition >= 0 && f.Partition < len(c.Partitions) &&
		f.Epoch >= 0 && f.Epoch < api.MaxEpoch &&
		len(f.Words) <= c.Partitions[f.Partition].Inputs
}

// feeds tells them as feeds, the earliest one first.
func (t tidings) feeds() []api.Feed {
	var out []api.Feed
	for _, at := range slices.SortedFunc(maps.Keys(t), earlier) {
		out = append(out, api.Feed{Partition: at.partition, Epoch: at.epoch, Words: copied(t[at])})
	}
	return out
}

// earlier holds two moments against each other: by their frames, and in one frame by their partitions.
func earlier(a, b moment) int {
	return cmp.Or(cmp.Compare(a.epoch, b.epoch), cmp.Compare(a.partition, b.partition))
}

// copied makes a list of its own.
func copied(words []uint32) []uint32 {
	out := make([]uint32, len(words))
	copy(out, words)
	return out
}
