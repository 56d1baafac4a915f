package solo

import (
	"bulkhead/api"
	"bulkhead/boot"
	"bulkhead/calls"
	"bulkhead/health"
	"bulkhead/layout"
	"bulkhead/mem"
	"bulkhead/plan"
)

// machine is a memory, and what works on it. It ends with the Run that it is made for, so it may lean on what was handed in there.
type machine struct {
	config   api.Config
	programs [][]uint32
	lies     api.Layout
	memory   *mem.Memory
	wards    *health.Wards
	calls    *calls.Calls
}

// made makes one with the memory of the beginning.
func made(c api.Config, programs [][]uint32, feeds []api.Feed) (*machine, api.Errno) {
	memory, e, _ := boot.Boot(c, programs)
	if e != api.OK {
		return nil, e
	}
	lies, e := layout.Of(c)
	if e != api.OK {
		return nil, e
	}
	wards, e := health.New(c)
	if e != api.OK {
		return nil, e
	}
	// The devices are made there, so it refuses just the feeds that device.New refuses.
	doing, e := calls.New(c, feeds)
	if e != api.OK {
		return nil, e
	}
	return &machine{config: c, programs: programs, lies: lies, memory: memory, wards: wards, calls: doing}, api.OK
}

// frame plays one frame of time. The layers below refuse nothing of a memory that boot.Boot has laid and on which they alone have worked.
func (m *machine) frame(epoch int, traces []api.Trace) api.Errno {
	if e := m.calls.Begin(m.memory, m.everyone()); e != api.OK {
		return e
	}
	for p := range len(m.config.Partitions) {
		if e := m.windows(p, epoch, &traces[p]); e != api.OK {
			return e
		}
	}
	return m.calls.Turn(m.memory)
}

// everyone tells all partitions.
func (m *machine) everyone() []int {
	var out []int
	for p := range len(m.config.Partitions) {
		out = append(out, p)
	}
	return out
}

// windows plays those that a partition has in a frame.
func (m *machine) windows(p, epoch int, trace *api.Trace) api.Errno {
	spans, e := plan.Spans(m.config, p)
	if e != api.OK {
		return e
	}
	for _, s := range spans {
		if e := m.window(p, epoch, s, trace).play(); e != api.OK {
			return e
		}
	}
	return api.OK
}

// anew lays a partition's memory as at the beginning.
func (m *machine) anew(p int) api.Errno {
	var program []uint32
	if p < len(m.programs) {
		program = m.programs[p]
	}
	return boot.Anew(m.memory, m.config, p, program)
}
