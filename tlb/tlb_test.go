package tlb_test

import (
	"fmt"
	"math"
	"slices"
	"testing"

	"bulkhead/api"
	"bulkhead/tlb"
)

// The numbers as the document prints them.
const (
	pages  = 256
	frames = 1024
	rights = 8
	most   = 4
)

// Pages that no space has.
var noPages = []int{-1, -2, -16, -pages, pages, pages + 1, 2 * pages, 4096, 1 << 32, math.MinInt, math.MaxInt}

// leaf is the chapter's l(p).
func leaf(p int) api.Leaf { return api.Leaf{Page: p, Frame: p + 10, Rights: 5} }

// leaves are those of pages, in that order.
func leaves(page ...int) []api.Leaf {
	var out []api.Leaf
	for _, p := range page {
		out = append(out, leaf(p))
	}
	return out
}

// noLeaves are leaves that may not be, each by one number of it, and by several.
func noLeaves() []api.Leaf {
	out := []api.Leaf{
		{Page: 256}, {Frame: 1024}, {Rights: 8}, {Page: -1}, {Frame: -1}, {Rights: -1},
		{Page: 255, Frame: 1024, Rights: 7}, {Page: 256, Frame: 1023, Rights: 7}, {Page: 255, Frame: 1023, Rights: 8},
		{Page: -1, Frame: -1, Rights: -1}, {Page: 256, Frame: 1024, Rights: 8},
		{Page: 3, Frame: 13, Rights: 16}, {Page: 3, Frame: 13, Rights: 1 << 32}, {Page: 3, Frame: 1 << 32, Rights: 5},
	}
	for _, n := range []int{math.MinInt, math.MinInt32, math.MaxInt32, math.MaxInt} {
		out = append(out, api.Leaf{Page: n}, api.Leaf{Frame: n}, api.Leaf{Rights: n})
	}
	for _, p := range noPages {
		out = append(out, api.Leaf{Page: p, Frame: 20, Rights: 5})
	}
	return out
}

// finds asks for the leaf of a page that must be held.
func finds(t *testing.T, x *tlb.TLB, want api.Leaf) {
	t.Helper()
	if got, ok := x.Find(want.Page); got != want || !ok {
		t.Errorf("Find(%d): %v %v, want %v", want.Page, got, ok, want)
	}
}

// lacks asks for pages that must not be held.
func lacks(t *testing.T, x *tlb.TLB, page ...int) {
	t.Helper()
	for _, p := range page {
		if got, ok := x.Find(p); got != (api.Leaf{}) || ok {
			t.Errorf("Find(%d): %v %v, want none", p, got, ok)
		}
	}
}

// puts hands a leaf in and asks for the error.
func puts(t *testing.T, x *tlb.TLB, l api.Leaf, want api.Errno) {
	t.Helper()
	if e := x.Put(l); e != want {
		t.Errorf("Put(%v): error %d, want %d", l, e, want)
	}
}

// restores makes a TLB hold leaves and asks for the error.
func restores(t *testing.T, x *tlb.TLB, l []api.Leaf, want api.Errno) {
	t.Helper()
	if e := x.Restore(l); e != want {
		t.Errorf("Restore(%v): error %d, want %d", l, e, want)
	}
}

// tells asks for the leaves, the least lately used first.
func tells(t *testing.T, x *tlb.TLB, want []api.Leaf) {
	t.Helper()
	if got := x.Leaves(); !slices.Equal(got, want) {
		t.Errorf("Leaves: %v, want %v", got, want)
	}
}

// filled makes a TLB into which the leaves of pages are put.
func filled(t *testing.T, page ...int) *tlb.TLB {
	t.Helper()
	x := tlb.New()
	for _, p := range page {
		puts(t, x, leaf(p), api.OK)
	}
	return x
}

// The chapter's examples, one behind the other.
func TestExamples(t *testing.T) {
	x := tlb.New()
	lacks(t, x, 3)
	for p := 3; p <= 6; p++ {
		puts(t, x, leaf(p), api.OK)
	}
	finds(t, x, leaf(3))
	puts(t, x, leaf(7), api.OK)
	tells(t, x, leaves(5, 6, 3, 7))
	lacks(t, x, 4)

	other := api.Leaf{Page: 5, Frame: 99, Rights: 1}
	puts(t, x, other, api.OK)
	tells(t, x, append(leaves(6, 3, 7), other))

	for _, l := range []api.Leaf{{Page: 256}, {Frame: 1024}, {Rights: 8}, {Page: -1}} {
		puts(t, x, l, api.ErrTLBLeaf)
	}

	restores(t, x, leaves(1, 1), api.ErrTLBLeaves)
	restores(t, x, leaves(1, 2, 3, 4, 5), api.ErrTLBLeaves)
	restores(t, x, leaves(2, 1), api.OK)
	tells(t, x, leaves(2, 1))
	x.Flush()
	tells(t, x, nil)
}

// The errors' numbers and the limits are the document's.
func TestNumbers(t *testing.T) {
	if api.ErrNil != 3 || api.ErrTLBLeaf != 80 || api.ErrTLBLeaves != 81 {
		t.Error("the errors' numbers")
	}
	if api.Pages != pages || api.MaxFrames != frames || api.Leaves != most {
		t.Error("the limits")
	}
	if api.RightRead|api.RightWrite|api.RightRun != rights-1 {
		t.Error("the rights")
	}
}

// P8.1: a new TLB holds nothing, and is another one each time.
func TestNew(t *testing.T) {
	x := tlb.New()
	if x == nil {
		t.Fatal("New: nil")
	}
	tells(t, x, nil)
	for p := -1; p <= pages; p++ {
		lacks(t, x, p)
	}
	other := tlb.New()
	puts(t, x, leaf(0), api.OK)
	tells(t, other, nil)
	lacks(t, other, 0)
}

// P8.1: behind a Flush nothing is held, however much was; the TLB can be used on, with its whole room.
func TestFlush(t *testing.T) {
	for many := range most + 2 {
		x := tlb.New()
		for p := range many {
			puts(t, x, leaf(p), api.OK)
		}
		for range 2 {
			x.Flush()
			tells(t, x, nil)
			lacks(t, x, 0, 1, 2, 3, 4, 5)
		}
		for p := 3; p >= 0; p-- {
			puts(t, x, leaf(p), api.OK)
		}
		tells(t, x, leaves(3, 2, 1, 0))
		puts(t, x, leaf(9), api.OK)
		tells(t, x, leaves(2, 1, 0, 9))
	}
}

// P8.2: a leaf that is found is the latest, wherever it stands; found again, nothing more changes.
func TestFind(t *testing.T) {
	behind := map[int][]api.Leaf{
		1: leaves(2, 3, 4, 1),
		2: leaves(1, 3, 4, 2),
		3: leaves(1, 2, 4, 3),
		4: leaves(1, 2, 3, 4),
	}
	for p, want := range behind {
		x := filled(t, 1, 2, 3, 4)
		for range 3 {
			finds(t, x, leaf(p))
			tells(t, x, want)
		}
		puts(t, x, leaf(5), api.OK)
		tells(t, x, append(slices.Clone(want[1:]), leaf(5)))
		lacks(t, x, want[0].Page)
	}
}

// P8.2: what is not held is not found, and the look changes nothing.
func TestFindNone(t *testing.T) {
	for many := range most + 1 {
		held := []int{7, 0, 255, 16}[:many]
		x := filled(t, held...)
		for p := range pages {
			if !slices.Contains(held, p) {
				lacks(t, x, p)
			}
		}
		lacks(t, x, noPages...)
		tells(t, x, leaves(held...))
	}
}

// P8.2: a leaf of zeros, and one without rights, are held as any other.
func TestZeroLeaf(t *testing.T) {
	x := tlb.New()
	puts(t, x, api.Leaf{}, api.OK)
	finds(t, x, api.Leaf{})
	puts(t, x, api.Leaf{Page: 1, Frame: 2}, api.OK)
	finds(t, x, api.Leaf{Page: 1, Frame: 2})
	tells(t, x, []api.Leaf{{}, {Page: 1, Frame: 2}})
	x.Flush()
	lacks(t, x, 0, 1)
}

// P8.3: every leaf that may be is held as it came: each page, each frame, each choice of rights.
func TestPutEach(t *testing.T) {
	x := tlb.New()
	for n := range frames {
		l := api.Leaf{Page: n % pages, Frame: n, Rights: n / 3 % rights}
		puts(t, x, l, api.OK)
		finds(t, x, l)
	}
	for _, p := range []int{0, pages - 1} {
		for _, f := range []int{0, frames - 1} {
			for r := range rights {
				l := api.Leaf{Page: p, Frame: f, Rights: r}
				puts(t, x, l, api.OK)
				finds(t, x, l)
			}
		}
	}
}

// P8.3: a leaf that may not be is refused, and nothing has changed: what is held of its page stays, too.
func TestPutRefuses(t *testing.T) {
	empty, full := tlb.New(), filled(t, 0, 3, 1, 255)
	for _, l := range noLeaves() {
		puts(t, empty, l, api.ErrTLBLeaf)
		tells(t, empty, nil)
		puts(t, full, l, api.ErrTLBLeaf)
		tells(t, full, leaves(0, 3, 1, 255))
		lacks(t, empty, l.Page)
	}
	for _, n := range []int{-1, 1024} {
		puts(t, full, api.Leaf{Page: 3, Frame: n, Rights: 5}, api.ErrTLBLeaf)
	}
	for _, n := range []int{-1, 8} {
		puts(t, full, api.Leaf{Page: 0, Frame: 10, Rights: n}, api.ErrTLBLeaf)
	}
	tells(t, full, leaves(0, 3, 1, 255))
}

// P8.3: a leaf of a page that is held takes the place of the old one, as the latest, and sends no other one away.
func TestPutOver(t *testing.T) {
	for many := 1; many <= most; many++ {
		for over := range many {
			held := []int{2, 4, 6, 8}[:many]
			for _, l := range []api.Leaf{
				leaf(held[over]),
				{Page: held[over], Frame: 500, Rights: 5},
				{Page: held[over], Frame: held[over] + 10, Rights: 0},
			} {
				x := filled(t, held...)
				puts(t, x, l, api.OK)
				want := append(slices.Delete(leaves(held...), over, over+1), l)
				tells(t, x, want)
				finds(t, x, l)
			}
		}
	}
}

// P8.3: leaves of several pages may name one frame: the page alone tells them apart.
func TestPutOneFrame(t *testing.T) {
	x := tlb.New()
	var want []api.Leaf
	for p := range most {
		l := api.Leaf{Page: p, Frame: 7, Rights: 3}
		puts(t, x, l, api.OK)
		want = append(want, l)
	}
	tells(t, x, want)
}

// P8.3: four leaves have room; with each one more the least lately used one goes.
func TestPutFull(t *testing.T) {
	x := tlb.New()
	var held []int
	for p := range pages {
		puts(t, x, leaf(p), api.OK)
		held = append(held, p)
		if len(held) > most {
			lacks(t, x, held[0])
			held = held[1:]
		}
		tells(t, x, leaves(held...))
	}
	tells(t, x, leaves(252, 253, 254, 255))
}

// R2: a nil TLB; its error is ahead of the others.
func TestNil(t *testing.T) {
	var x *tlb.TLB
	lacks(t, x, 0, 1, 255)
	lacks(t, x, noPages...)
	puts(t, x, leaf(1), api.ErrNil)
	puts(t, x, api.Leaf{}, api.ErrNil)
	for _, l := range noLeaves() {
		puts(t, x, l, api.ErrNil)
	}
	if got := x.Leaves(); len(got) != 0 {
		t.Errorf("Leaves: %v", got)
	}
	restores(t, x, nil, api.ErrNil)
	restores(t, x, leaves(1, 2), api.ErrNil)
	for _, l := range refusals() {
		restores(t, x, l, api.ErrNil)
	}
	x.Flush()
}

// The section 'Ways': what the embedded shelf promotes is the TLB's own shelf.
func TestPromoted(t *testing.T) {
	x := filled(t, 1, 2, 3)
	if x.Room() != most || x.Len() != 3 {
		t.Errorf("room %d, %d leaves", x.Room(), x.Len())
	}
	var told []string
	for p, l := range x.All() {
		told = append(told, fmt.Sprint(p, l))
	}
	if want := []string{"1 {1 11 5}", "2 {2 12 5}", "3 {3 13 5}"}; !slices.Equal(told, want) {
		t.Errorf("All: %v, want %v", told, want)
	}
}
