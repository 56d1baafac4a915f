package page_test

import (
	"math"
	"slices"
	"sync"
	"testing"

	"bulkhead/api"
	"bulkhead/mem"
	"bulkhead/page"
)

// The bounds by the numbers that the document prints.
const (
	frameWords = 16
	pages      = 256
	space      = 4096
	mostFrames = 1024
	mostRegion = 8
)

// there is the bit of an entry that says so.
const there = 0x80000000

// far: numbers whose sums wrap round, or that are a small one in fewer bits.
var far = []int{math.MinInt, math.MinInt + 1, -1 << 32, -pages, -1, 1 << 31, 1 << 32, 1<<32 + 1, 1 << 60, 1 << 62, math.MaxInt - 1, math.MaxInt}

// made makes a memory of so many frames.
func made(t *testing.T, frames int) *mem.Memory {
	t.Helper()
	m, e := mem.New(frames)
	if m == nil || e != api.OK {
		t.Fatalf("mem.New(%d): %v, error %d", frames, m, e)
	}
	return m
}

// filled makes a memory of so many frames of words that say nothing by themselves but are easily told from noughts.
func filled(t *testing.T, frames int) *mem.Memory {
	t.Helper()
	m := made(t, frames)
	m.Fill(0, frameWords*frames, 0xffffffff)
	return m
}

// told asks for an error.
func told(t *testing.T, what string, got, want api.Errno) {
	t.Helper()
	if got != want {
		t.Errorf("%s: error %d, want %d", what, got, want)
	}
}

// walks asks what Walk answers.
func walks(t *testing.T, m *mem.Memory, root, p int, want api.Leaf, e api.Errno) {
	t.Helper()
	if got, g := page.Walk(m, root, p); got != want || g != e {
		t.Errorf("Walk(%d, %d): %v, error %d; want %v, %d", root, p, got, g, want, e)
	}
}

// lies asks what Address answers.
func lies(t *testing.T, m *mem.Memory, root, at, rights, want int, e api.Errno) {
	t.Helper()
	if got, g := page.Address(m, root, at, rights); got != want || g != e {
		t.Errorf("Address(%d, %d, %d): %d, error %d; want %d, %d", root, at, rights, got, g, want, e)
	}
}

// goesThrough asks for all leaves.
func goesThrough(t *testing.T, m *mem.Memory, root int, want ...api.Leaf) {
	t.Helper()
	if got := slices.Collect(page.Leaves(m, root)); !slices.Equal(got, want) {
		t.Errorf("Leaves(%d): %v, want %v", root, got, want)
	}
}

// unwritten asks that a memory is as it was.
func unwritten(t *testing.T, what string, m, was *mem.Memory) {
	t.Helper()
	if l := slices.Collect(m.Differ(was)); len(l) != 0 {
		t.Errorf("%s has written the words %v", what, l)
	}
}

// exampleRegions are the two of the section 'Examples'.
func exampleRegions() []api.Region {
	return []api.Region{{Page: 14, Pages: 4, Frame: 2, Rights: 3}, {Page: 255, Pages: 1, Frame: 9, Rights: 4}}
}

// The section 'Examples', row by row (P9.1, P9.2, P9.6).
func TestExamples(t *testing.T) {
	for _, x := range []struct {
		frame, rights int
		want          uint32
		e             api.Errno
	}{
		{5, 3, 0x8000002b, api.OK}, {1023, 7, 0x80001fff, api.OK},
		{1024, 0, 0, api.ErrPageEntry}, {0, 8, 0, api.ErrPageEntry},
	} {
		if w, e := page.Encode(x.frame, x.rights); w != x.want || e != x.e {
			t.Errorf("Encode(%d, %d): %x, error %d", x.frame, x.rights, w, e)
		}
	}
	for _, x := range []struct {
		entry         uint32
		frame, rights int
		there         bool
	}{{0x8000002b, 5, 3, true}, {0x0000002b, 0, 0, false}, {0xffffe02b, 5, 3, true}} {
		if f, r, ok := page.Decode(x.entry); f != x.frame || r != x.rights || ok != x.there {
			t.Errorf("Decode(%x): %d, %d, %v", x.entry, f, r, ok)
		}
	}
	for _, x := range []struct {
		regions []api.Region
		want    int
		e       api.Errno
	}{
		{exampleRegions(), 3, api.OK},
		{[]api.Region{{Page: 0, Pages: 2, Frame: 4, Rights: 1}, {Page: 1, Pages: 1, Frame: 7, Rights: 1}}, 0, api.ErrPageRegion},
		{[]api.Region{{Page: 255, Pages: 2, Frame: 0, Rights: 1}}, 0, api.ErrPageRegion},
		{nil, 0, api.OK},
	} {
		if n, e := page.Tables(x.regions); n != x.want || e != x.e {
			t.Errorf("Tables(%v): %d, error %d", x.regions, n, e)
		}
	}
}

// The example of a build, and what is told behind it (P9.3, P9.4, P9.7, P9.8).
func TestExampleBuild(t *testing.T) {
	m := made(t, 20)
	told(t, "Build", page.Build(m, 12, []int{13, 14, 15}, exampleRegions()), api.OK)
	want := make([]uint32, 20*frameWords)
	for at, w := range map[int]uint32{
		192: 0x80000068, 193: 0x80000070, 207: 0x80000078, 222: 0x80000013, 223: 0x8000001b,
		224: 0x80000023, 225: 0x8000002b, 255: 0x8000004c,
	} {
		want[at] = w
	}
	if got := m.Words(); !slices.Equal(got, want) {
		t.Errorf("behind Build: %x", got)
	}
	walks(t, m, 12, 16, api.Leaf{Page: 16, Frame: 4, Rights: 3}, api.OK)
	for _, p := range []int{18, 32, 256} {
		walks(t, m, 12, p, api.Leaf{}, api.ErrPageNone)
	}
	walks(t, m, 20, 16, api.Leaf{}, api.ErrPageRoot)
	lies(t, m, 12, 257, 3, 65, api.OK)
	lies(t, m, 12, 257, 4, 0, api.ErrPageRight)
	lies(t, m, 12, 4080, 4, 144, api.OK)
	was := m.Clone()
	told(t, "Build with two tables", page.Build(m, 12, []int{13, 14}, exampleRegions()), api.ErrPageTables)
	told(t, "Build with the root", page.Build(m, 12, []int{13, 14, 12}, exampleRegions()), api.ErrPageRoot)
	unwritten(t, "a Build that was refused", m, was)
	goesThrough(t, m, 12,
		api.Leaf{Page: 14, Frame: 2, Rights: 3}, api.Leaf{Page: 15, Frame: 3, Rights: 3}, api.Leaf{Page: 16, Frame: 4, Rights: 3},
		api.Leaf{Page: 17, Frame: 5, Rights: 3}, api.Leaf{Page: 255, Frame: 9, Rights: 4})
}

// The numbers of the errors, as the chapter prints them.
func TestErrors(t *testing.T) {
	for e, want := range map[api.Errno]int{
		api.ErrPageEntry: 90, api.ErrPageRoot: 91, api.ErrPageNone: 92, api.ErrPageRight: 93,
		api.ErrPageTables: 94, api.ErrPageRegion: 95, api.ErrLong: 2, api.ErrNil: 3,
	} {
		if int(e) != want {
			t.Errorf("error %d, want %d", e, want)
		}
	}
}

// P9.1, P9.2: each frame with each right, added up by hand, and back (P9.10).
func TestEntries(t *testing.T) {
	for frame := range mostFrames {
		for rights := range 8 {
			want := uint32(2147483648 + 8*frame + rights)
			if w, e := page.Encode(frame, rights); w != want || e != api.OK {
				t.Fatalf("Encode(%d, %d): %x, error %d", frame, rights, w, e)
			}
			if f, r, ok := page.Decode(want); f != frame || r != rights || !ok {
				t.Fatalf("Decode(%x): %d, %d, %v", want, f, r, ok)
			}
		}
	}
}

// P9.1: frames and rights that may not be.
func TestNoEntries(t *testing.T) {
	for _, n := range append(far, mostFrames, mostFrames+1, -mostFrames) {
		for rights := -1; rights < 9; rights++ {
			if w, e := page.Encode(n, rights); w != 0 || e != api.ErrPageEntry {
				t.Errorf("Encode(%d, %d): %x, error %d", n, rights, w, e)
			}
		}
	}
	for _, n := range append(far, 8, 9, 15, 16, -8) {
		for _, frame := range []int{0, 1, 1023, 1024} {
			if w, e := page.Encode(frame, n); w != 0 || e != api.ErrPageEntry {
				t.Errorf("Encode(%d, %d): %x, error %d", frame, n, w, e)
			}
		}
	}
}

// P9.2: the bits between the frame and bit 31 say nothing, and without bit 31 no bit says anything.
func TestDecodeOtherBits(t *testing.T) {
	for bit := 13; bit < 31; bit++ {
		for _, entry := range []uint32{0x80000000, 0x8000002b, 0x80001fff} {
			f, r, ok := page.Decode(entry | 1<<bit)
			wantF, wantR, wantOK := page.Decode(entry)
			if f != wantF || r != wantR || !ok || !wantOK {
				t.Errorf("Decode(%x): %d, %d, %v", entry|1<<bit, f, r, ok)
			}
		}
	}
	for _, entry := range []uint32{0, 1, 7, 0x1fff, 0x2b, 0x7fffffff, 0x40000000} {
		if f, r, ok := page.Decode(entry); f != 0 || r != 0 || ok {
			t.Errorf("Decode(%x): %d, %d, %v", entry, f, r, ok)
		}
	}
	if f, r, ok := page.Decode(0xffffffff); f != 1023 || r != 7 || !ok {
		t.Errorf("Decode of all ones: %d, %d, %v", f, r, ok)
	}
}

// P9.3: the errors of a walk, each at its place, and each ahead of those that come later.
func TestWalkErrors(t *testing.T) {
	m := made(t, 4)
	for _, root := range append(far, 4, 5, 1023, 1024) {
		for _, p := range append(far, 0, 255, 256) {
			walks(t, m, root, p, api.Leaf{}, api.ErrPageRoot)
		}
	}
	// Root 1: its entry 2 names the table 3, its entry 3 one that is not there, its entry 4 is there but for bit 31.
	m.Write(16+2, there|3<<3)
	m.Write(16+3, there|4<<3)
	m.Write(16+4, 3<<3|7)
	// Table 3: entry 5 names the frame 0, entry 6 one that is not there, entry 7 is there but for bit 31.
	m.Write(48+5, there|6)
	m.Write(48+6, there|4<<3|7)
	m.Write(48+7, 2<<3|7)
	for _, p := range append(far, 256, 257, 4096) {
		walks(t, m, 1, p, api.Leaf{}, api.ErrPageNone)
	}
	for p := range pages {
		switch {
		case p == 2*16+5:
			walks(t, m, 1, p, api.Leaf{Page: p, Frame: 0, Rights: 6}, api.OK)
		case p == 2*16+6 || p/16 == 3:
			walks(t, m, 1, p, api.Leaf{}, api.ErrPageRoot)
		default:
			walks(t, m, 1, p, api.Leaf{}, api.ErrPageNone)
		}
	}
	goesThrough(t, m, 1, api.Leaf{Page: 37, Frame: 0, Rights: 6})
}

// P9.3: the last frame of a memory is there, the one behind it is not, of memories of several sizes.
func TestWalkLastFrame(t *testing.T) {
	for _, frames := range []int{1, 2, 16, 17, 1023, 1024} {
		m := made(t, frames)
		last := frames - 1
		m.Write(16*last, there|uint32(last)<<3) // the last frame names itself: it is root, table and leaf in one
		walks(t, m, last, 0, api.Leaf{Page: 0, Frame: last, Rights: 0}, api.OK)
		lies(t, m, last, 9, 0, 16*last+9, api.OK)
		walks(t, m, frames, 0, api.Leaf{}, api.ErrPageRoot)
		if frames < mostFrames {
			m.Write(16*last, there|uint32(frames)<<3)
			walks(t, m, last, 0, api.Leaf{}, api.ErrPageRoot)
		}
	}
}

// P9.3: the rights of the root's entry, and the bits that say nothing, are not looked at.
func TestWalkOtherBits(t *testing.T) {
	m := made(t, 4)
	for _, other := range []uint32{0, 1, 5, 7, 0x2000, 0x7fffe000, 0x7fffe007} {
		m.Write(15, there|1<<3|other)
		for _, high := range []uint32{0, 0x2000, 0x7fffe000} {
			m.Write(16+15, there|2<<3|5|high)
			walks(t, m, 0, 255, api.Leaf{Page: 255, Frame: 2, Rights: 5}, api.OK)
			lies(t, m, 0, 4095, 5, 47, api.OK)
			lies(t, m, 0, 4095, 2, 0, api.ErrPageRight)
		}
	}
}

// P9.4: each right that is asked against each that is given.
func TestAddressRights(t *testing.T) {
	m := made(t, 3)
	m.Write(0, there|1<<3|7)
	for given := range 8 {
		m.Write(16, there|2<<3|uint32(given))
		for asked := range 8 {
			ok := true
			for _, bit := range []int{1, 2, 4} {
				if asked/bit%2 == 1 && given/bit%2 == 0 {
					ok = false
				}
			}
			if ok {
				lies(t, m, 0, 11, asked, 43, api.OK)
			} else {
				lies(t, m, 0, 11, asked, 0, api.ErrPageRight)
			}
		}
	}
}

// P9.4: each error ahead of those that come later.
func TestAddressErrors(t *testing.T) {
	m := made(t, 3)
	m.Write(0, there|1<<3)
	m.Write(1, there|3<<3) // a table that is not there
	m.Write(16, there|2<<3|1)
	m.Write(17, there|3<<3|7) // a frame that is not there
	for _, rights := range append(far, 8, 9, 16) {
		for _, root := range []int{-1, 0, 3} {
			for _, at := range []int{-1, 0, space} {
				lies(t, m, root, at, rights, 0, api.ErrPageEntry)
			}
		}
	}
	for _, root := range append(far, 3, 4) {
		for _, at := range append(far, -16, 0, 16, 256, space) {
			lies(t, m, root, at, 7, 0, api.ErrPageRoot)
		}
	}
	// Just below 0 a division would find page 0, which is there.
	for _, at := range append(far, -15, -16, -17, space, space+1, 65536) {
		lies(t, m, 0, at, 0, 0, api.ErrPageNone)
		lies(t, m, 0, at, 2, 0, api.ErrPageNone)
	}
	lies(t, m, 0, 0, 1, 32, api.OK)
	lies(t, m, 0, 15, 1, 47, api.OK)
	lies(t, m, 0, 15, 3, 0, api.ErrPageRight)
	for _, at := range []int{16, 31, 256, 511} {
		lies(t, m, 0, at, 7, 0, api.ErrPageRoot)
	}
	for _, at := range []int{32, 255, 512, 4095} {
		lies(t, m, 0, at, 7, 0, api.ErrPageNone)
	}
}

// R2: a nil memory is told ahead of everything else.
func TestNil(t *testing.T) {
	for _, n := range []int{-1, 0, 2000} {
		walks(t, nil, n, n, api.Leaf{}, api.ErrNil)
		lies(t, nil, n, n, n, 0, api.ErrNil)
		told(t, "Build", page.Build(nil, n, make([]int, 17), make([]api.Region, 9)), api.ErrNil)
		goesThrough(t, nil, n)
		if page.Leaves(nil, n) == nil {
			t.Errorf("Leaves(nil, %d) is no iterator", n)
		}
	}
	m := made(t, 2)
	for _, root := range append(far, 2, 1024) {
		if page.Leaves(m, root) == nil {
			t.Errorf("Leaves(%d) is no iterator", root)
		}
		goesThrough(t, m, root)
	}
}

// P9.8: Leaves is left as soon as it is told to, and can be ranged over again.
func TestLeavesLeft(t *testing.T) {
	m := made(t, 40)
	told(t, "Build", page.Build(m, 30, []int{31, 32, 33}, exampleRegions()), api.OK)
	all := page.Leaves(m, 30)
	for most := 1; most <= 5; most++ {
		var got []int
		all(func(l api.Leaf) bool {
			got = append(got, l.Page)
			return len(got) < most
		})
		if !slices.Equal(got, []int{14, 15, 16, 17, 255}[:most]) {
			t.Errorf("left behind %d: %v", most, got)
		}
	}
	if n := len(slices.Collect(all)); n != 5 {
		t.Errorf("again: %d leaves", n)
	}
}

// P9.8: two ranges over one iterator do not know of each other.
func TestLeavesWithin(t *testing.T) {
	m := made(t, 40)
	told(t, "Build", page.Build(m, 30, []int{31, 32, 33}, exampleRegions()), api.OK)
	all := page.Leaves(m, 30)
	n := 0
	for range all {
		for range all {
			n++
		}
	}
	if n != 25 {
		t.Errorf("%d pairs of leaves, want 25", n)
	}
}

// P9.8: each page is looked at when the range comes to it: entries of tables and of the root that are written meanwhile count ahead of it alone.
func TestLeavesAsTheMemoryIsThen(t *testing.T) {
	m := made(t, 8)
	seq := page.Leaves(m, 0) // nothing is there yet
	m.Write(0, there|1<<3)
	m.Write(16, there|2<<3|1)    // page 0
	m.Write(16+15, there|3<<3|2) // page 15
	var got []api.Leaf
	for l := range seq {
		got = append(got, l)
		switch l.Page {
		case 0:
			m.Write(16, there|7<<3|7)    // page 0: behind
			m.Write(16+1, there|4<<3|4)  // page 1: ahead
			m.Write(16+15, there|5<<3|3) // page 15: ahead
		case 1:
			m.Write(1, there|1<<3) // the pages 16 to 31 by the same table
		case 15:
			m.Write(0, 0)          // the table of page 0: behind
			m.Write(2, there|6<<3) // an empty table
		case 17:
			m.Write(16+15, 0) // page 31 is gone
			m.Write(15, there|1<<3)
			m.Write(16+3, there|8<<3) // no frame of the memory
		}
	}
	want := []api.Leaf{
		{Page: 0, Frame: 2, Rights: 1}, {Page: 1, Frame: 4, Rights: 4}, {Page: 15, Frame: 5, Rights: 3},
		{Page: 16, Frame: 7, Rights: 7}, {Page: 17, Frame: 4, Rights: 4},
		{Page: 240, Frame: 7, Rights: 7}, {Page: 241, Frame: 4, Rights: 4},
	}
	if !slices.Equal(got, want) {
		t.Errorf("Leaves: %v, want %v", got, want)
	}
}

// P9.9: several goroutines may ask while others write words that are not looked at, though these lie in the same root and table.
func TestTogether(t *testing.T) {
	m := made(t, 8)
	m.Write(0, there|1<<3)
	m.Write(16+3, there|2<<3|3)
	var wait sync.WaitGroup
	var wrong [4]int
	for g := range wrong {
		wait.Go(func() {
			for i := range 500 {
				m.Write(1+g, uint32(i))    // another entry of the root
				m.Write(16+4+g, uint32(i)) // another entry of the table
				m.Write(32+g, uint32(i))   // a word of the page itself
				l, e := page.Walk(m, 0, 3)
				at, f := page.Address(m, 0, 48+g, 3)
				if l != (api.Leaf{Page: 3, Frame: 2, Rights: 3}) || e != api.OK || at != 32+g || f != api.OK {
					wrong[g]++
				}
			}
		})
	}
	wait.Wait()
	if wrong != [4]int{} {
		t.Errorf("told something wrong: %v times", wrong)
	}
}

// P9.9: several goroutines may go through the leaves at one time, each in its own range over one iterator.
func TestLeavesTogether(t *testing.T) {
	m := made(t, 40)
	told(t, "Build", page.Build(m, 30, []int{31, 32, 33}, exampleRegions()), api.OK)
	all := page.Leaves(m, 30)
	var wait sync.WaitGroup
	var counts [4]int
	for g := range counts {
		wait.Go(func() {
			for l := range all {
				m.Write(16*(2+g), uint32(l.Page)) // words of the pages, not of the tables
				counts[g]++
			}
		})
	}
	wait.Wait()
	if counts != [4]int{5, 5, 5, 5} {
		t.Errorf("leaves: %v", counts)
	}
}
