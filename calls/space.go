package calls

import (
	"bulkhead/api"
	"bulkhead/mem"
	"bulkhead/page"
)

// places tells where in the memory so many words of the partition's space lie, from the one that register 2 names on; false: to one of them that right is not given.
func (s *Calls) places(r request, many, right int) ([]int, bool) {
	places := make([]int, many)
	for i := range places {
		// Reckoned as ints: no word behind the space comes round to its beginning.
		at, e := page.Address(r.m, s.homes[r.p].root, int(r.two)+i, right)
		if e != api.OK {
			return nil, false
		}
		places[i] = at
	}
	return places, true
}

// read tells the words at these places.
func read(m *mem.Memory, places []int) ([]uint32, api.Errno) {
	words := make([]uint32, len(places))
	for i, at := range places {
		w, e := m.Read(at)
		if e != api.OK {
			return nil, e
		}
		words[i] = w
	}
	return words, api.OK
}

// write lays words at these places, which need not follow on one another.
func write(m *mem.Memory, places []int, words []uint32) api.Errno {
	for i, at := range places {
		if e := m.Write(at, words[i]); e != api.OK {
			return e
		}
	}
	return api.OK
}
