package tlb_test

import (
	"math/rand/v2"
	"slices"
	"sync"
	"testing"

	"bulkhead/api"
	"bulkhead/tlb"
)

// history is the row of leaves that have been put or found since a TLB was empty last: all that it holds can be read off it.
type history []api.Leaf

// others tells how many other pages stand behind the last use of a page; false, if it has none.
func (h history) others(page int) (int, bool) {
	var seen []int
	for _, l := range slices.Backward(h) {
		if l.Page == page {
			return len(seen), true
		}
		if !slices.Contains(seen, l.Page) {
			seen = append(seen, l.Page)
		}
	}
	return 0, false
}

// find tells the leaf of a page, as it was used last: it is held, till four others have been used behind that.
func (h history) find(page int) (api.Leaf, bool) {
	many, used := h.others(page)
	if !used || many >= most {
		return api.Leaf{}, false
	}
	for _, l := range slices.Backward(h) {
		if l.Page == page {
			return l, true
		}
	}
	return api.Leaf{}, false
}

// held tells the last pages that were used, four at most, the least lately used first.
func (h history) held() []api.Leaf {
	var out []api.Leaf
	for _, l := range slices.Backward(h) {
		if len(out) == most {
			break
		}
		if !slices.ContainsFunc(out, func(o api.Leaf) bool { return o.Page == l.Page }) {
			out = append(out, l)
		}
	}
	slices.Reverse(out)
	return out
}

// anyLeaf draws a leaf that may be, of one of some pages.
func anyLeaf(r *rand.Rand, some []int) api.Leaf {
	return api.Leaf{Page: some[r.IntN(len(some))], Frame: r.IntN(frames), Rights: r.IntN(rights)}
}

// anyLeaves draws a list that a TLB can hold.
func anyLeaves(r *rand.Rand, some []int) []api.Leaf {
	var out []api.Leaf
	for _, i := range r.Perm(len(some))[:r.IntN(most+1)] {
		out = append(out, api.Leaf{Page: some[i], Frame: r.IntN(frames), Rights: r.IntN(rights)})
	}
	return out
}

// step does one thing to a TLB, and tells the history behind it.
func (h history) step(t *testing.T, x *tlb.TLB, r *rand.Rand, some []int) history {
	t.Helper()
	switch n := r.IntN(60); {
	case n == 0:
		x.Flush()
		return nil
	case n == 1:
		l := anyLeaves(r, some)
		restores(t, x, l, api.OK)
		return slices.Clone(l)
	case n == 2:
		restores(t, x, refusals()[r.IntN(len(refusals()))], api.ErrTLBLeaves)
		return h
	case n == 3:
		puts(t, x, noLeaves()[r.IntN(len(noLeaves()))], api.ErrTLBLeaf)
		return h
	case n == 4:
		lacks(t, x, noPages[r.IntN(len(noPages))])
		return h
	case n < 30:
		l := anyLeaf(r, some)
		puts(t, x, l, api.OK)
		return append(h, l)
	}
	page := some[r.IntN(len(some))]
	want, held := h.find(page)
	if got, ok := x.Find(page); got != want || ok != held {
		t.Errorf("Find(%d): %v %v, want %v %v", page, got, ok, want, held)
	}
	if held {
		return append(h, want)
	}
	return h
}

// P8.1 to P8.5: long rows of calls, held against what can be read off the row of uses.
func TestHistory(t *testing.T) {
	for seed := range uint64(30) {
		r := rand.New(rand.NewPCG(seed, 8))
		some := [][]int{{0, 1, 2, 3, 4}, {255, 254, 239, 16, 0, 15, 128}, {3, 19, 35, 51, 67, 83, 99, 115, 131}}[seed%3]
		x, h := tlb.New(), history{}
		for range 1500 {
			h = h.step(t, x, r, some)
			tells(t, x, h.held())
			if t.Failed() {
				t.Fatalf("seed %d, behind %v", seed, h)
			}
		}
	}
}

// P8.5: a page stays while fewer than four others are used behind its last use, by Put or by Find, however often each is.
func TestTillFourOthers(t *testing.T) {
	for _, found := range []bool{false, true} {
		for others := range most + 1 {
			x := filled(t, 50, 1, 2, 3)
			if found {
				finds(t, x, leaf(50))
			} else {
				puts(t, x, leaf(50), api.OK)
			}
			for range 3 {
				for o := 1; o <= min(others, 3); o++ {
					finds(t, x, leaf(o))
				}
			}
			if others == most {
				puts(t, x, leaf(4), api.OK)
				lacks(t, x, 50)
				tells(t, x, leaves(1, 2, 3, 4))
			} else {
				finds(t, x, leaf(50))
			}
		}
	}
}

// P8.5: Restore of what Leaves tells makes another TLB that goes on alike.
func TestAgain(t *testing.T) {
	some := []int{0, 1, 2, 3, 4, 5, 6, 255}
	for seed := range uint64(60) {
		r := rand.New(rand.NewPCG(seed, 9))
		first := tlb.New()
		for range r.IntN(30) {
			puts(t, first, anyLeaf(r, some), api.OK)
			first.Find(some[r.IntN(len(some))])
		}
		second := filled(t, 200, 1, 2, 201)
		restores(t, second, first.Leaves(), api.OK)
		for range 200 {
			tells(t, second, first.Leaves())
			if l := anyLeaf(r, some); r.IntN(2) == 0 {
				puts(t, first, l, api.OK)
				puts(t, second, l, api.OK)
			}
			page := some[r.IntN(len(some))]
			want, held := first.Find(page)
			if got, ok := second.Find(page); got != want || ok != held {
				t.Fatalf("Find(%d): %v %v, want %v %v", page, got, ok, want, held)
			}
		}
	}
}

// P8.5: a TLB that is restored from its own leaves is as it was.
func TestAgainItself(t *testing.T) {
	x := filled(t, 1, 2, 3, 4)
	finds(t, x, leaf(2))
	restores(t, x, x.Leaves(), api.OK)
	tells(t, x, leaves(1, 3, 4, 2))
}

// P8.5: two TLBs have nothing in common: what is done to one does not show in another.
func TestApart(t *testing.T) {
	a := filled(t, 1, 2, 3)
	b := tlb.New()
	restores(t, b, a.Leaves(), api.OK)
	finds(t, b, leaf(1))
	puts(t, b, api.Leaf{Page: 2, Frame: 99}, api.OK)
	puts(t, b, leaf(4), api.OK)
	puts(t, b, leaf(5), api.OK)
	tells(t, a, leaves(1, 2, 3))
	b.Flush()
	tells(t, a, leaves(1, 2, 3))
	puts(t, b, leaf(9), api.OK)
	a.Flush()
	tells(t, a, nil)
	tells(t, b, leaves(9))
	restores(t, a, leaves(7, 8), api.OK)
	tells(t, b, leaves(9))
}

// P8.5: TLBs in goroutines of their own answer as one alone does (under the race detector: they touch nothing in common).
func TestSideBySide(t *testing.T) {
	row := func() int {
		x, r, sum := tlb.New(), rand.New(rand.NewPCG(8, 3)), 0
		for range 2000 {
			x.Put(anyLeaf(r, []int{0, 1, 2, 3, 4, 5}))
			l, _ := x.Find(r.IntN(6))
			sum = (sum*31 + l.Frame) % 1000003
			for _, l := range x.Leaves() {
				sum = (sum*31 + l.Page + l.Rights) % 1000003
			}
			if l.Frame%50 == 0 {
				x.Restore(x.Leaves()[:1])
			}
		}
		return sum
	}
	want := row()
	sums := make([]int, 8)
	var group sync.WaitGroup
	for i := range sums {
		group.Go(func() { sums[i] = row() })
	}
	group.Wait()
	for i, sum := range sums {
		if sum != want {
			t.Errorf("the %d-th TLB: %d, want %d", i, sum, want)
		}
	}
}
