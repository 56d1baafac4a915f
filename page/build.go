package page

import (
	"iter"
	"slices"

	"bulkhead/api"
	"bulkhead/mem"
)

// finder tells where a page stands; false: in no region.
type finder func(page int) (api.Leaf, bool)

// Tables tells how many tables regions need.
func Tables(regions []api.Region) (int, api.Errno) {
	if len(regions) > api.MaxRegions {
		return 0, api.ErrLong
	}
	if !mayBe(regions) {
		return 0, api.ErrPageRegion
	}
	many := 0
	for range needed(standing(regions)) {
		many++
	}
	return many, api.OK
}

// Build lays tables down for regions.
func Build(m *mem.Memory, root int, tables []int, regions []api.Region) api.Errno {
	if m == nil {
		return api.ErrNil
	}
	if len(tables) > entries {
		return api.ErrLong
	}
	many, e := Tables(regions)
	if e != api.OK {
		return e
	}
	if !lieIn(m, regions) {
		return api.ErrPageRegion
	}
	if len(tables) != many {
		return api.ErrPageTables
	}
	if !apart(m, root, tables) {
		return api.ErrPageRoot
	}
	lay(m, root, tables, standing(regions))
	return api.OK
}

// mayBe tells whether there can be such regions: each by itself, and no page in two of them.
func mayBe(regions []api.Region) bool {
	for i, r := range regions {
		if !regionMayBe(r) || meetsOne(r, regions[:i]) {
			return false
		}
	}
	return true
}

// regionMayBe takes off what must fit in, and adds nothing: the sum of two great numbers would wrap round.
func regionMayBe(r api.Region) bool {
	return r.Page >= 0 && r.Pages >= 1 && r.Pages <= api.Pages-r.Page &&
		r.Frame >= 0 && r.Frame <= api.MaxFrames-r.Pages && areRights(r.Rights)
}

// meetsOne tells whether a region has a page with one of others.
func meetsOne(r api.Region, others []api.Region) bool {
	return slices.ContainsFunc(others, func(o api.Region) bool {
		return r.Page < o.Page+o.Pages && o.Page < r.Page+r.Pages
	})
}

// lieIn tells whether a memory has all frames of the regions.
func lieIn(m *mem.Memory, regions []api.Region) bool {
	return !slices.ContainsFunc(regions, func(r api.Region) bool { return r.Frame+r.Pages > m.Frames() })
}

// apart tells whether a memory has the root and the tables, no two of them the same.
func apart(m *mem.Memory, root int, tables []int) bool {
	if !hasFrame(m, root) {
		return false
	}
	for i, t := range tables {
		if !hasFrame(m, t) || t == root || slices.Contains(tables[:i], t) {
			return false
		}
	}
	return true
}

// standing makes what tells where the pages of regions stand.
func standing(regions []api.Region) finder {
	return func(page int) (api.Leaf, bool) {
		for _, r := range regions {
			if into := page - r.Page; within(into, r.Pages) {
				return api.Leaf{Page: page, Frame: r.Frame + into, Rights: r.Rights}, true
			}
		}
		return api.Leaf{}, false
	}
}

// needed goes through the sixteens of pages of which one stands somewhere, each with the words of its table.
func needed(find finder) iter.Seq2[int, []uint32] {
	return func(yield func(int, []uint32) bool) {
		for t := range entries {
			if words, used := tableOf(find, t); used && !yield(t, words) {
				return
			}
		}
	}
}

// tableOf tells the words of the table of the sixteen pages 16 t and on, and whether one of them stands somewhere.
func tableOf(find finder, t int) (words []uint32, used bool) {
	words = make([]uint32, entries)
	for i := range words {
		if leaf, there := find(t*entries + i); there {
			words[i], _ = Encode(leaf.Frame, leaf.Rights)
			used = true
		}
	}
	return words, used
}

// lay writes the tables, the first one for the first sixteen that needs one, and the root that names them.
func lay(m *mem.Memory, root int, tables []int, find finder) {
	top := make([]uint32, entries)
	next := 0
	for t, words := range needed(find) {
		top[t], _ = Encode(tables[next], 0)
		m.Lay(tables[next]*api.FrameWords, words)
		next++
	}
	m.Lay(root*api.FrameWords, top)
}
