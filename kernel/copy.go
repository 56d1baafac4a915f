package kernel

import (
	"slices"

	"bulkhead/api"
)

// copiedConfig makes a configuration that has no list in common with another one.
func copiedConfig(c api.Config) api.Config {
	c.Cores = copiedLists(c.Cores)
	c.Channels = slices.Clone(c.Channels)
	c.Partitions = slices.Clone(c.Partitions)
	for i := range c.Partitions {
		p := &c.Partitions[i]
		p.Regions, p.Ports = slices.Clone(p.Regions), slices.Clone(p.Ports)
	}
	return c
}

// copiedLists makes lists of their own.
func copiedLists[T any](lists [][]T) [][]T {
	out := slices.Clone(lists)
	for i, list := range out {
		out[i] = slices.Clone(list)
	}
	return out
}
