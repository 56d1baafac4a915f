package audit

import (
	"slices"

	"bulkhead/api"
	"bulkhead/boot"
	"bulkhead/layout"
	"bulkhead/page"
)

// isOwner tells whether a word of the memory is this owner's. Of a configuration that holds together each partition has a region, and all that the kernel keeps lies in the memory.
func isOwner(c api.Config, o api.Owner) bool {
	if o.Kind == api.OwnPort {
		return within(o.Index, len(c.Partitions)) && isDestination(c.Partitions[o.Index].Ports, o.Port)
	}
	return o.Port == 0 && within(o.Index, owners(c, o.Kind))
}

// isDestination tells whether one of these ports has this number and receives.
func isDestination(ports []api.Port, port int) bool {
	return within(port, len(ports)) && !ports[port].Source
}

// owners tells how many owners of a kind there are, which are numbered from 0 on.
func owners(c api.Config, kind int) int {
	switch kind {
	case api.OwnNobody:
		if hasFree(c) {
			return 1
		}
	case api.OwnBarrier:
		return 1
	case api.OwnRegion, api.OwnLock, api.OwnSave, api.OwnState, api.OwnTable:
		return len(c.Partitions)
	case api.OwnChannel, api.OwnStage:
		return len(c.Channels)
	}
	return 0
}

// hasFree tells whether a word of the memory is nobody's: one between the last port and the first root, or a frame that is neither the kernel's nor a leaf's. No two leaves have one frame, so they need but be counted.
func hasFree(c api.Config) bool {
	lies, e := layout.Of(c)
	if e != api.OK {
		return false
	}
	m, e, _ := boot.Boot(c, nil)
	if e != api.OK {
		return false
	}
	free := c.Frames - (lies.End - c.Kernel)
	for _, place := range lies.Partitions {
		for range page.Leaves(m, place.Root) {
			free--
		}
	}
	between, e := layout.Owner(c, lies.Partitions[0].Root*api.FrameWords-1)
	return free > 0 || e == api.OK && between.Kind == api.OwnNobody
}

// endMay tells whether the frame's end may write words of an owner.
func endMay(o api.Owner) bool {
	return o.Kind == api.OwnStage || o.Kind == api.OwnPort || o.Kind == api.OwnBarrier
}

// stepMay tells whether a step for a partition may.
func stepMay(c api.Config, p int, o api.Owner) bool {
	ports := c.Partitions[p].Ports
	source := api.Port{Channel: o.Index, Source: true}
	switch o.Kind {
	case api.OwnRegion, api.OwnLock, api.OwnSave, api.OwnState, api.OwnPort:
		return o.Index == p
	case api.OwnChannel:
		return slices.Contains(ports, source) || slices.Contains(ports, api.Port{Channel: o.Index})
	case api.OwnStage:
		return slices.Contains(ports, source)
	}
	return o.Kind == api.OwnBarrier
}
