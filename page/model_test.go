package page_test

import (
	"math/rand/v2"
	"slices"
	"testing"

	"bulkhead/api"
	"bulkhead/mem"
	"bulkhead/page"
)

// space256 is what regions say, page by page; nil: they may not be. It is filled in page by page and not asked region by region.
type space256 map[int]api.Leaf

// mapped tells what regions say.
func mapped(regions []api.Region) space256 {
	out := space256{}
	for _, r := range regions {
		if r.Pages < 1 || r.Pages > pages || r.Rights < 0 || r.Rights > 7 {
			return nil
		}
		for i := range r.Pages {
			p, f := r.Page+i, r.Frame+i
			_, twice := out[p]
			if twice || p < 0 || p >= pages || f < 0 || f >= mostFrames {
				return nil
			}
			out[p] = api.Leaf{Page: p, Frame: f, Rights: r.Rights}
		}
	}
	return out
}

// sixteens tells which t have a page, rising.
func (s space256) sixteens() []int {
	var out []int
	for p := range s {
		out = append(out, p/16)
	}
	slices.Sort(out)
	return slices.Compact(out)
}

// leaves tells all leaves, by rising pages.
func (s space256) leaves() []api.Leaf {
	var out []api.Leaf
	for p := range pages {
		if l, ok := s[p]; ok {
			out = append(out, l)
		}
	}
	return out
}

// words tells what a memory holds when tables of this space are laid down in it.
func (s space256) words(was []uint32, root int, tables []int) []uint32 {
	out := slices.Clone(was)
	clear(out[16*root : 16*root+16])
	for i, t := range s.sixteens() {
		out[16*root+t] = 1<<31 + uint32(tables[i])*8
		clear(out[16*tables[i] : 16*tables[i]+16])
		for j := range 16 {
			if l, ok := s[16*t+j]; ok {
				out[16*tables[i]+j] = 1<<31 + uint32(l.Frame)*8 + uint32(l.Rights)
			}
		}
	}
	return out
}

// anyRegions draws some regions that mostly may be, in a memory of so many frames.
func anyRegions(r *rand.Rand, frames int) []api.Region {
	var out []api.Region
	for range r.IntN(6) {
		n := 1 + r.IntN(min(40, frames))
		out = append(out, api.Region{Page: r.IntN(pages - n + 1), Pages: n, Frame: r.IntN(frames - n + 1), Rights: r.IntN(8)})
	}
	if len(out) > 0 && r.IntN(8) == 0 {
		x := &out[r.IntN(len(out))]
		*[]*int{&x.Page, &x.Pages, &x.Frame, &x.Rights}[r.IntN(4)] += r.IntN(600) - 300
	}
	return out
}

// anyMemory draws a memory of words that are entries, or nearly.
func anyMemory(t *testing.T, r *rand.Rand, frames int) *mem.Memory {
	t.Helper()
	words := make([]uint32, 16*frames)
	for i := range words {
		words[i] = r.Uint32() & (1<<31 | 0x7fffe000*(r.Uint32()&1) | 0x1fff)
		if r.IntN(4) > 0 {
			words[i] = words[i]&^0x1ff8 | uint32(r.IntN(frames+1))<<3
		}
	}
	m, e := mem.Of(words)
	if e != api.OK {
		t.Fatalf("mem.Of: error %d", e)
	}
	return m
}

// P9.5, P9.6, P9.7, P9.10: Tables and Build against what regions say page by page.
func TestBuildByModel(t *testing.T) {
	r := rand.New(rand.NewPCG(9, 1))
	built := 0
	for range 3000 {
		frames := 20 + r.IntN(100)
		regions := anyRegions(r, frames)
		want := mapped(regions)
		n, e := page.Tables(regions)
		if want == nil {
			if n != 0 || e != api.ErrPageRegion {
				t.Fatalf("Tables(%v): %d, error %d", regions, n, e)
			}
			continue
		}
		if n != len(want.sixteens()) || e != api.OK {
			t.Fatalf("Tables(%v): %d, error %d; want %d", regions, n, e, len(want.sixteens()))
		}
		m := anyMemory(t, r, frames)
		was := m.Words()
		places := r.Perm(frames)
		root, tables := places[0], places[1:n+1]
		e = page.Build(m, root, tables, regions)
		if slices.ContainsFunc(want.leaves(), func(l api.Leaf) bool { return l.Frame >= frames }) {
			if e != api.ErrPageRegion || !slices.Equal(m.Words(), was) {
				t.Fatalf("Build of %v in %d frames: error %d, or it has written", regions, frames, e)
			}
			continue
		}
		if e != api.OK || !slices.Equal(m.Words(), want.words(was, root, tables)) {
			t.Fatalf("Build(%d, %v, %v): error %d, or other words", root, tables, regions, e)
		}
		built++
		asked(t, r, m, root, want)
	}
	if built < 500 {
		t.Errorf("only %d builds went well", built)
	}
}

// asked asks what follows of a build: the leaves are just these, and so are the words (P9.10).
func asked(t *testing.T, r *rand.Rand, m *mem.Memory, root int, want space256) {
	t.Helper()
	if got := slices.Collect(page.Leaves(m, root)); !slices.Equal(got, want.leaves()) {
		t.Fatalf("Leaves: %v, want %v", got, want.leaves())
	}
	was := m.Clone()
	for range 200 {
		at, rights := r.IntN(space), r.IntN(8)
		l, ok := want[at/16]
		switch {
		case !ok:
			lies(t, m, root, at, rights, 0, api.ErrPageNone)
			walks(t, m, root, at/16, api.Leaf{}, api.ErrPageNone)
		case l.Rights|rights != l.Rights:
			lies(t, m, root, at, rights, 0, api.ErrPageRight)
		default:
			lies(t, m, root, at, rights, 16*l.Frame+at%16, api.OK)
			walks(t, m, root, at/16, l, api.OK)
		}
	}
	unwritten(t, "Walk, Address or Leaves", m, was)
}

// found reckons a walk off a memory's words: the two entries, split by division.
func found(words []uint32, root, p int) (api.Leaf, api.Errno) {
	frames := len(words) / 16
	at, rights := root, 0
	for _, i := range []int{p / 16, p % 16} {
		entry := uint64(words[16*at+i])
		if entry < 1<<31 {
			return api.Leaf{}, api.ErrPageNone
		}
		at, rights = int(entry%8192/8), int(entry%8)
		if at >= frames {
			return api.Leaf{}, api.ErrPageRoot
		}
	}
	return api.Leaf{Page: p, Frame: at, Rights: rights}, api.OK
}

// P9.3, P9.4, P9.8, P9.9: memories of any words, whatever they name: loops and frames that are not there among it.
func TestWalkByModel(t *testing.T) {
	r := rand.New(rand.NewPCG(9, 2))
	seen := map[api.Errno]int{}
	for range 200 {
		frames := 1 + r.IntN(40)
		m := anyMemory(t, r, frames)
		words, root := m.Words(), r.IntN(frames)
		var leaves []api.Leaf
		for p := range pages {
			want, e := found(words, root, p)
			walks(t, m, root, p, want, e)
			seen[e]++
			if e == api.OK {
				leaves = append(leaves, want)
			}
			at, rights := 16*p+r.IntN(16), r.IntN(8)
			switch {
			case e != api.OK:
				lies(t, m, root, at, rights, 0, e)
			case want.Rights|rights != want.Rights:
				lies(t, m, root, at, rights, 0, api.ErrPageRight)
			default:
				lies(t, m, root, at, rights, 16*want.Frame+at%16, api.OK)
			}
		}
		goesThrough(t, m, root, leaves...)
		if !slices.Equal(m.Words(), words) {
			t.Fatal("Walk, Address or Leaves has written")
		}
	}
	for _, e := range []api.Errno{api.OK, api.ErrPageNone, api.ErrPageRoot} {
		if seen[e] < 1000 {
			t.Errorf("error %d came only %d times", e, seen[e])
		}
	}
}

// P9.10: where no region has the root's or a table's frame, nothing that is written through the regions changes the leaves.
func TestWritesDoNotReachTables(t *testing.T) {
	r := rand.New(rand.NewPCG(9, 3))
	for range 100 {
		m := made(t, 60)
		regions := anyRegions(r, 40)
		if want := mapped(regions); want == nil || slices.ContainsFunc(want.leaves(), func(l api.Leaf) bool { return l.Frame >= 40 }) {
			continue
		}
		n, _ := page.Tables(regions)
		told(t, "Build", page.Build(m, 59, upTo(40, 40+n), regions), api.OK)
		before := slices.Collect(page.Leaves(m, 59))
		for at := range space {
			if place, e := page.Address(m, 59, at, 2); e == api.OK {
				told(t, "Write", m.Write(place, r.Uint32()), api.OK)
			}
		}
		goesThrough(t, m, 59, before...)
	}
}
