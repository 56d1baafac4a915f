package crew

import (
	"bulkhead/api"
	"bulkhead/kernel"
)

// tracesOf makes one for each partition of a machine, of which nothing has been told as yet.
func tracesOf(k *kernel.Kernel) []api.Trace { return make([]api.Trace, len(k.Partitions())) }

// step lets a core do one step, and notes what it tells; false: it was blocked. A machine refuses no step of a core that it has.
func step(k *kernel.Kernel, core int, traces []api.Trace) bool {
	turn, _ := k.Step(core)
	note(traces, turn)
	return turn.Kind != api.TurnBlocked
}

// note lays what a turn tells behind what its partition's trace has; that an epoch begins is told of none.
func note(traces []api.Trace, turn api.Turn) {
	for _, x := range turn.Seen {
		t := &traces[x.Partition]
		t.Seen = append(t.Seen, x)
	}
	for _, x := range turn.Events {
		if x.Kind != api.EventEpoch {
			t := &traces[x.Partition]
			t.Events = append(t.Events, x)
		}
	}
	for _, x := range turn.Outs {
		t := &traces[x.Partition]
		t.Outs = append(t.Outs, x)
	}
}
