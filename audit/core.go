package audit

import (
	"bulkhead/api"
	"bulkhead/plan"
)

// noteCores notes the cores that stand where none can, when the machine is in that epoch.
func (f *findings) noteCores(c api.Config, epoch int, cores []api.CoreView) {
	for core, v := range cores {
		if !rightEpoch(v.Epoch, epoch) || !rightWindow(c, core, v) {
			f.note(api.ProblemCore, core, 0)
		}
	}
}

// rightEpoch tells whether a core can be in an epoch, when the machine is in that one: it may not have gone on yet.
func rightEpoch(epoch, machine int) bool { return epoch == machine || epoch == machine-1 }

// rightWindow tells whether a core that is in a window is in that of the partition whose time it is.
func rightWindow(c api.Config, core int, v api.CoreView) bool {
	if v.Mode != api.ModeRun && v.Mode != api.ModeCall {
		return true
	}
	starts, e := plan.Starts(c, core)
	if e != api.OK || !within(v.Window, len(starts)) {
		return false
	}
	w := c.Cores[core][v.Window]
	last := w.Usable + w.Slack - 1
	place, e := plan.At(c, core, starts[v.Window]+min(v.Used, last))
	return e == api.OK && place.Partition == v.Partition
}
