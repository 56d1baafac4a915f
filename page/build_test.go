package page_test

import (
	"math"
	"slices"
	"sync"
	"testing"

	"bulkhead/api"
	"bulkhead/mem"
	"bulkhead/page"
)

// needs asks how many tables regions need.
func needs(t *testing.T, regions []api.Region, want int, e api.Errno) {
	t.Helper()
	if n, g := page.Tables(regions); n != want || g != e {
		t.Errorf("Tables(%v): %d, error %d; want %d, %d", regions, n, g, want, e)
	}
}

// refuses asks for an error of Build, and that nothing is written.
func refuses(t *testing.T, m *mem.Memory, root int, tables []int, regions []api.Region, want api.Errno) {
	t.Helper()
	was := m.Clone()
	if e := page.Build(m, root, tables, regions); e != want {
		t.Errorf("Build(%d, %v, %v): error %d, want %d", root, tables, regions, e, want)
	}
	unwritten(t, "a Build that was refused", m, was)
}

// one is a list of one region.
func one(p, n, frame, rights int) []api.Region {
	return []api.Region{{Page: p, Pages: n, Frame: frame, Rights: rights}}
}

// upTo tells the numbers from a first one on, below an end.
func upTo(from, end int) []int {
	var out []int
	for n := from; n < end; n++ {
		out = append(out, n)
	}
	return out
}

// P9.5: each edge of a region: the last that may be, and the first that may not.
func TestRegionMayBe(t *testing.T) {
	for _, x := range []struct {
		regions []api.Region
		tables  int
	}{
		{one(0, 1, 0, 0), 1}, {one(0, 256, 0, 7), 16}, {one(255, 1, 0, 1), 1}, {one(1, 255, 0, 1), 16},
		{one(15, 1, 1023, 7), 1}, {one(15, 2, 1022, 7), 2}, {one(16, 16, 0, 7), 1}, {one(0, 256, 768, 2), 16},
		{one(17, 16, 5, 4), 2}, {one(240, 16, 0, 1), 1}, {one(239, 17, 1007, 1), 2},
	} {
		needs(t, x.regions, x.tables, api.OK)
	}
	for _, regions := range [][]api.Region{
		one(-1, 1, 0, 0), one(-1, 2, 0, 0), one(0, 0, 0, 0), one(5, -1, 0, 0), one(0, 257, 0, 0), one(255, 2, 0, 0), one(256, 1, 0, 0),
		one(256, 0, 0, 0), one(0, 1, -1, 0), one(0, 1, 1024, 0), one(0, 2, 1023, 0), one(0, 256, 769, 0), one(0, 2, -1, 0),
		one(0, 1, 0, -1), one(0, 1, 0, 8), one(0, 1, 0, 16), {{}},
	} {
		needs(t, regions, 0, api.ErrPageRegion)
	}
	for _, n := range far {
		for _, regions := range [][]api.Region{
			one(n, 1, 0, 0), one(0, n, 0, 0), one(0, 1, n, 0), one(0, 1, 0, n), one(n, n, 0, 0), one(n, -n, 0, 0), one(n, 2-n, 0, 0),
			one(0, n, n, 0), one(0, 1, n, n), one(n, math.MaxInt, 0, 0), one(255, n, 1023, 7), one(n, 256, 1, 1),
		} {
			needs(t, regions, 0, api.ErrPageRegion)
		}
	}
}

// P9.5: no page may be in two regions, whichever of them stands first; one frame may be.
func TestRegionsMayMeet(t *testing.T) {
	base := api.Region{Page: 20, Pages: 4, Frame: 8, Rights: 1}
	for from := 14; from < 28; from++ {
		for n := 1; n < 8; n++ {
			other := api.Region{Page: from, Pages: n, Frame: 8, Rights: 6}
			meet := false
			for p := from; p < from+n; p++ {
				meet = meet || p >= 20 && p < 24
			}
			for _, regions := range [][]api.Region{{base, other}, {other, base}, {one(200, 1, 0, 0)[0], base, one(201, 1, 0, 0)[0], other}} {
				got, e := page.Tables(regions)
				if meet && (got != 0 || e != api.ErrPageRegion) || !meet && (got == 0 || e != api.OK) {
					t.Errorf("Tables(%v): %d, error %d", regions, got, e)
				}
			}
		}
	}
	needs(t, []api.Region{base, base}, 0, api.ErrPageRegion)
}

// P9.6: more than eight regions are too long, whatever they are; eight are not; the order of regions does not matter.
func TestTables(t *testing.T) {
	var regions []api.Region
	for i := range mostRegion {
		regions = append(regions, api.Region{Page: 32*i + 15, Pages: 2, Frame: 3, Rights: i})
	}
	needs(t, regions, 16, api.OK)
	slices.Reverse(regions)
	needs(t, regions, 16, api.OK)
	needs(t, append(slices.Clone(regions), api.Region{Page: 0, Pages: 1}), 0, api.ErrLong)
	needs(t, make([]api.Region, 8), 0, api.ErrPageRegion)
	needs(t, make([]api.Region, 9), 0, api.ErrLong)
	needs(t, make([]api.Region, 1000), 0, api.ErrLong)
	needs(t, nil, 0, api.OK)
	needs(t, []api.Region{}, 0, api.OK)
	needs(t, []api.Region{{Page: 0, Pages: 1}, {Page: 15, Pages: 1}, {Page: 7, Pages: 2}}, 1, api.OK)
	for p := range pages {
		needs(t, one(p, 1, 0, 0), 1, api.OK)
		needs(t, one(0, p+1, 0, 0), p/16+1, api.OK)
	}
}

// P9.7: each error ahead of those that come later.
func TestBuildErrors(t *testing.T) {
	m := filled(t, 20)
	good, bad := exampleRegions(), one(0, 1, 0, 8)
	outside := one(0, 2, 19, 1)
	three := []int{13, 14, 15}
	// ErrLong ahead of all: too many regions, too many tables.
	refuses(t, m, 99, three, make([]api.Region, 9), api.ErrLong)
	refuses(t, m, 99, make([]int, 17), bad, api.ErrLong)
	refuses(t, m, 12, upTo(0, 17), good, api.ErrLong)
	// ErrPageRegion: may not be, or no frame of the memory; ahead of the number of tables, and of frames.
	refuses(t, m, 99, nil, bad, api.ErrPageRegion)
	refuses(t, m, 99, nil, outside, api.ErrPageRegion)
	refuses(t, m, 99, make([]int, 16), []api.Region{{Page: 0, Pages: 1}, {Page: 0, Pages: 1}}, api.ErrPageRegion)
	refuses(t, m, 12, []int{13}, one(0, 1, 20, 1), api.ErrPageRegion)
	refuses(t, m, 12, []int{13}, one(0, 1, 1023, 1), api.ErrPageRegion)
	refuses(t, m, 12, []int{13, 14}, []api.Region{{Page: 0, Pages: 1}, {Page: 100, Pages: 16, Frame: 5, Rights: 1}}, api.ErrPageRegion)
	// ErrPageTables ahead of frames that are none, or twice there.
	for _, tables := range [][]int{nil, {13}, {13, 14}, {13, 14, 15, 16}, {99, 99}, {12, 12, 12, 12}, make([]int, 16)} {
		refuses(t, m, 12, tables, good, api.ErrPageTables)
		refuses(t, m, 99, tables, good, api.ErrPageTables)
	}
	refuses(t, m, 12, []int{13}, nil, api.ErrPageTables)
	// ErrPageRoot: no frame, or twice the same.
	for _, n := range append(far, 20, 21, 1023, 1024) {
		refuses(t, m, n, three, good, api.ErrPageRoot)
		refuses(t, m, n, nil, nil, api.ErrPageRoot)
		for i := range three {
			tables := slices.Clone(three)
			tables[i] = n
			refuses(t, m, 12, tables, good, api.ErrPageRoot)
		}
	}
	for _, tables := range [][]int{{13, 13, 15}, {13, 14, 13}, {13, 14, 14}, {12, 13, 14}, {13, 12, 14}, {13, 14, 12}} {
		refuses(t, m, 12, tables, good, api.ErrPageRoot)
	}
	refuses(t, m, 99, []int{99, 99, 99}, good, api.ErrPageRoot)
}

// P9.7: the frames of the root and of the tables are laid down whole, and no other word is written.
func TestBuildWhole(t *testing.T) {
	m := filled(t, 9)
	told(t, "Build", page.Build(m, 8, []int{6, 0, 3}, []api.Region{
		{Page: 255, Pages: 1, Frame: 8, Rights: 4}, {Page: 31, Pages: 2, Frame: 7, Rights: 1},
	}), api.OK)
	want := slices.Repeat([]uint32{0xffffffff}, 9*frameWords)
	for _, f := range []int{8, 6, 0, 3} {
		clear(want[16*f : 16*f+16])
	}
	want[8*16+1] = there | 6<<3
	want[8*16+2] = there | 0<<3
	want[8*16+15] = there | 3<<3
	want[6*16+15] = there | 7<<3 | 1
	want[0*16+0] = there | 8<<3 | 1
	want[3*16+15] = there | 8<<3 | 4
	if got := m.Words(); !slices.Equal(got, want) {
		t.Errorf("behind Build: %x, want %x", got, want)
	}
}

// P9.7: no regions need no tables, and the root is noughts then.
func TestBuildNothing(t *testing.T) {
	for _, tables := range [][]int{nil, {}} {
		for _, regions := range [][]api.Region{nil, {}} {
			m := filled(t, 3)
			told(t, "Build", page.Build(m, 1, tables, regions), api.OK)
			words := slices.Concat(slices.Repeat([]uint32{0xffffffff}, 16), make([]uint32, 16), slices.Repeat([]uint32{0xffffffff}, 16))
			if got := m.Words(); !slices.Equal(got, words) {
				t.Errorf("behind Build: %x", got)
			}
			goesThrough(t, m, 1)
		}
	}
}

// P9.7, P9.10: all 256 pages, sixteen tables, the last frames of the greatest memory.
func TestBuildAll(t *testing.T) {
	m := filled(t, mostFrames)
	told(t, "Build", page.Build(m, 0, upTo(1, 17), one(0, pages, 768, 5)), api.OK)
	var want []api.Leaf
	for p := range pages {
		want = append(want, api.Leaf{Page: p, Frame: 768 + p, Rights: 5})
	}
	goesThrough(t, m, 0, want...)
	for at := range space {
		lies(t, m, 0, at, 5, 768*16+at, api.OK)
	}
}

// P9.7: whether a region has the root's frame or a table's is not looked at; several pages may stand for one frame.
func TestBuildOnItself(t *testing.T) {
	m := made(t, 3)
	told(t, "Build", page.Build(m, 0, []int{1, 2}, []api.Region{
		{Page: 0, Pages: 3, Frame: 0, Rights: 7}, {Page: 100, Pages: 1, Frame: 1, Rights: 1}, {Page: 3, Pages: 2, Frame: 1, Rights: 2},
	}), api.OK)
	goesThrough(t, m, 0,
		api.Leaf{Page: 0, Frame: 0, Rights: 7}, api.Leaf{Page: 1, Frame: 1, Rights: 7}, api.Leaf{Page: 2, Frame: 2, Rights: 7},
		api.Leaf{Page: 3, Frame: 1, Rights: 2}, api.Leaf{Page: 4, Frame: 2, Rights: 2}, api.Leaf{Page: 100, Frame: 1, Rights: 1})
}

// P9.7: a second build in the same frames leaves nothing of the first one there.
func TestBuildAgain(t *testing.T) {
	m := made(t, 20)
	told(t, "Build", page.Build(m, 12, []int{13, 14, 15}, exampleRegions()), api.OK)
	told(t, "Build again", page.Build(m, 12, []int{14}, one(40, 1, 1, 2)), api.OK)
	goesThrough(t, m, 12, api.Leaf{Page: 40, Frame: 1, Rights: 2})
}

// R5: the lists that are handed in stay as they are, the room behind their ends too, and are not kept.
func TestListsStay(t *testing.T) {
	m := made(t, 20)
	backing := append(exampleRegions(), one(77, 7, 7, 7)...)
	regions := backing[:2]
	room := []int{13, 14, 15, 99, 98}
	tables := room[:3]
	if n, e := page.Tables(regions); n != 3 || e != api.OK {
		t.Errorf("Tables: %d, error %d", n, e)
	}
	told(t, "Build", page.Build(m, 12, tables, regions), api.OK)
	if !slices.Equal(backing, append(exampleRegions(), one(77, 7, 7, 7)...)) || !slices.Equal(room, []int{13, 14, 15, 99, 98}) {
		t.Errorf("the lists are %v and %v now", backing, room)
	}
	clear(backing)
	clear(room)
	if n := len(slices.Collect(page.Leaves(m, 12))); n != 5 {
		t.Errorf("behind a change of the lists: %d leaves", n)
	}
}

// R7: several goroutines may build in frames of their own, while others work on the rest.
func TestBuildTogether(t *testing.T) {
	m := made(t, 40)
	var wait sync.WaitGroup
	var wrong [4]int
	for g := range wrong {
		wait.Go(func() {
			root := 5 * g
			for i := range 100 {
				m.Write(16*(20+g), uint32(i))
				e := page.Build(m, root, []int{root + 1, root + 2}, one(15, 2, 20+g, g))
				if l, f := page.Walk(m, root, 16); e != api.OK || f != api.OK || l != (api.Leaf{Page: 16, Frame: 21 + g, Rights: g}) {
					wrong[g]++
				}
			}
		})
	}
	wait.Wait()
	if wrong != [4]int{} {
		t.Errorf("told something wrong: %v times", wrong)
	}
}
