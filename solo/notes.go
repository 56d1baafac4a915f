package solo

import "bulkhead/api"

// notes are what a window may do to its partition's trace: each adds one thing behind what stands there.
type notes struct {
	seen  func(cycle int, act api.Act, after api.Context)
	event func(kind, cycle, trap int)
	out   func(word uint32)
}

// notesOn makes those that write of a partition in one frame.
func notesOn(trace *api.Trace, p, epoch int) notes {
	return notes{
		seen: func(cycle int, act api.Act, after api.Context) {
			trace.Seen = append(trace.Seen, api.Seen{
				Partition: p, Epoch: epoch, Cycle: cycle,
				PC: act.PC, Word: act.Word, Trap: act.Trap,
				Read: act.Read, Addr: act.Addr, Value: act.Value,
				After: after,
			})
		},
		event: func(kind, cycle, trap int) {
			trace.Events = append(trace.Events, api.Event{Kind: kind, Partition: p, Epoch: epoch, Cycle: cycle, Trap: trap})
		},
		out: func(word uint32) {
			trace.Outs = append(trace.Outs, api.Out{Partition: p, Epoch: epoch, Word: word})
		},
	}
}
