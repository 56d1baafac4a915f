package admit

import (
	"slices"

	"bulkhead/api"
)

// run is a row of pages, or of frames: the first one, and how many.
type run struct{ first, size int }

// pagesOf are a region's pages.
func pagesOf(r api.Region) run { return run{first: r.Page, size: r.Pages} }

// framesOf are the frames that its pages stand for.
func framesOf(r api.Region) run { return run{first: r.Frame, size: r.Pages} }

// meets tells whether two runs have one in common.
func (r run) meets(other run) bool {
	return r.first < other.first+other.size && other.first < r.first+r.size
}

// anyMeets tells whether one of the regions has one of these pages, or frames, whichever is asked.
func anyMeets(regions []api.Region, runOf func(api.Region) run, other run) bool {
	return slices.ContainsFunc(regions, func(r api.Region) bool { return runOf(r).meets(other) })
}
