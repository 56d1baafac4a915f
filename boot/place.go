package boot

import (
	"iter"

	"bulkhead/api"
	"bulkhead/mem"
)

// layOwn lays the words of a partition's regions as they are at the beginning: its program's, and 0 else.
func layOwn(m *mem.Memory, regions []api.Region, program []uint32) api.Errno {
	// Asked ahead of the first write, so that a refused program has changed nothing.
	if !lies(regions, program) {
		return api.ErrBootProgram
	}
	for _, r := range regions {
		if e := m.Fill(r.Frame*api.FrameWords, r.Pages*api.FrameWords, 0); e != api.OK {
			return e
		}
	}
	for at, w := range places(regions, program) {
		if e := m.Write(at, w); e != api.OK {
			return e
		}
	}
	return api.OK
}

// lies tells whether a program lies in a partition of these regions.
func lies(regions []api.Region, program []uint32) bool {
	if len(program) > api.MaxProgram {
		return false
	}
	placed := 0
	for range places(regions, program) {
		placed++
	}
	return placed == len(program)
}

// places goes through a program's words, each with the place of the memory at which it lies, up to the first one that lies nowhere.
func places(regions []api.Region, program []uint32) iter.Seq2[int, uint32] {
	return func(yield func(int, uint32) bool) {
		for i, w := range program {
			at, there := place(regions, i)
			if !there || !yield(at, w) {
				return
			}
		}
	}
}

// place tells where in the memory a word of the space lies. The regions are asked and not the tables: Anew must go well whatever the tables' words are.
func place(regions []api.Region, word int) (at int, there bool) {
	page := word / api.FrameWords
	for _, r := range regions {
		if r.Page <= page && page < r.Page+r.Pages {
			return (r.Frame+page-r.Page)*api.FrameWords + word%api.FrameWords, true
		}
	}
	return 0, false
}
