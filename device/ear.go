package device

import (
	"bulkhead/api"
	"bulkhead/mem"
)

// lastOfState is how far behind the first word of a partition's state its last one lies.
const lastOfState = 4

// ear is what a device hears with: where it counts the words of the present frame, and how many it hears at the most.
type ear struct {
	at   int
	most uint32
}

// earsOf tells those of all partitions.
func earsOf(c api.Config, l api.Layout) []ear {
	out := make([]ear, len(c.Partitions))
	for p, partition := range c.Partitions {
		out[p] = ear{at: l.Partitions[p].State + lastOfState, most: uint32(partition.Outputs)}
	}
	return out
}

// hear counts one word more, as long as it may.
func (r ear) hear(m *mem.Memory) (told int, e api.Errno) {
	heard, e := m.Read(r.at)
	if e != api.OK {
		return 0, e
	}
	if heard >= r.most {
		return api.ToldFull, api.OK
	}
	return api.ToldOK, m.Write(r.at, heard+1)
}
