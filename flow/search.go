package flow

import (
	"slices"

	"bulkhead/api"
)

// gather finds the edges. Several channels may make one edge: as a key it is there once.
func gather(c api.Config) map[api.Edge]struct{} {
	edges := map[api.Edge]struct{}{}
	for from, sender := range c.Partitions {
		for _, source := range sender.Ports {
			if !source.Source || source.Channel < 0 || source.Channel >= len(c.Channels) {
				continue
			}
			for to, receiver := range c.Partitions {
				if slices.Contains(receiver.Ports, api.Port{Channel: source.Channel}) {
					edges[api.Edge{From: from, To: to}] = struct{}{}
				}
			}
		}
	}
	return edges
}

// behind answers what tells, one by one and rising, the partitions to which an edge leads from p, and then that there are no more. The edges are in order.
func behind(edges []api.Edge, p int) func() (int, bool) {
	at, _ := slices.BinarySearchFunc(edges, api.Edge{From: p}, inOrder)
	return func() (int, bool) {
		if at == len(edges) || edges[at].From != p {
			return 0, false
		}
		at++
		return edges[at-1].To, true
	}
}

// search goes out from a partition, the nearest ones first, till it comes to another one, and tells of each partition that it came to from which one it did so first.
//
// Those that are equally near are gone on from in the order in which they were come to, so that the first way to a partition is the one that is told: at the first place at which it differs from another one as short, it has the lesser partition.
func search(edges []api.Edge, from, to int) map[int]int {
	before := map[int]int{}
	row := []int{from}
out:
	for i := 0; i < len(row); i++ {
		next := behind(edges, row[i])
		for {
			q, ok := next()
			if !ok {
				continue out
			}
			if _, known := before[q]; known {
				continue
			}
			before[q] = row[i]
			if q == to {
				break out
			}
			row = append(row, q)
		}
	}
	return before
}

// trace goes from the end back to the beginning, and answers nil, if the search did not come to the end.
func trace(before map[int]int, from, to int) []int {
	p, ok := before[to]
	if !ok {
		return nil
	}
	way := []int{to}
	for p != from {
		way = append(way, p)
		p = before[p]
	}
	way = append(way, from)
	slices.Reverse(way)
	return way
}
