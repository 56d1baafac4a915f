package tlb_test

import (
	"slices"
	"testing"

	"bulkhead/api"
	"bulkhead/tlb"
)

// P8.4: Leaves is no use of any leaf, however often it is asked.
func TestLeavesIsNoUse(t *testing.T) {
	x := filled(t, 4, 3, 2, 1)
	finds(t, x, leaf(3))
	for range 5 {
		tells(t, x, leaves(4, 2, 1, 3))
	}
	puts(t, x, leaf(9), api.OK)
	lacks(t, x, 4)
	tells(t, x, leaves(2, 1, 3, 9))
}

// P8.4: what Restore lays is told by Leaves in that order, whatever was held before.
func TestRestore(t *testing.T) {
	for _, l := range [][]api.Leaf{
		nil,
		{},
		leaves(0),
		leaves(255),
		{{}},
		leaves(2, 1),
		leaves(1, 2, 3),
		leaves(3, 0, 255, 16),
		leaves(4, 3, 2, 1),
		{{Page: 255, Frame: 1023, Rights: 7}, {Page: 0, Frame: 0, Rights: 0}, {Page: 1, Frame: 1023, Rights: 1}},
		{{Page: 1, Frame: 7}, {Page: 2, Frame: 7}, {Page: 3, Frame: 7}, {Page: 4, Frame: 7}},
	} {
		for _, x := range []*tlb.TLB{tlb.New(), filled(t, 9), filled(t, 1, 2, 3, 4), filled(t, 6, 7, 8, 9)} {
			restores(t, x, l, api.OK)
			tells(t, x, l)
			for p := range pages {
				if !slices.ContainsFunc(l, func(held api.Leaf) bool { return held.Page == p }) {
					lacks(t, x, p)
				}
			}
			tells(t, x, l)
			for _, held := range l {
				finds(t, x, held)
			}
			tells(t, x, l)
		}
	}
}

// P8.4: the order is that of the use: the first leaf is the one that goes; where there is room none does.
func TestRestoreOrder(t *testing.T) {
	x := filled(t, 4, 5, 6, 7)
	restores(t, x, leaves(6, 4, 7, 5), api.OK)
	for _, want := range [][]int{{4, 7, 5, 8}, {7, 5, 8, 9}, {5, 8, 9, 10}} {
		puts(t, x, leaf(want[3]), api.OK)
		tells(t, x, leaves(want...))
	}
	restores(t, x, leaves(1, 0), api.OK)
	puts(t, x, leaf(8), api.OK)
	puts(t, x, leaf(9), api.OK)
	tells(t, x, leaves(1, 0, 8, 9))
	puts(t, x, leaf(10), api.OK)
	tells(t, x, leaves(0, 8, 9, 10))
}

// P8.4: a leaf that is restored is the one that was given, not one of the same page that was held.
func TestRestoreOver(t *testing.T) {
	x := filled(t, 1, 2, 3, 4)
	l := []api.Leaf{{Page: 3, Frame: 99, Rights: 1}, leaf(1)}
	restores(t, x, l, api.OK)
	tells(t, x, l)
	finds(t, x, l[0])
}

// refusals are leaves that no TLB holds.
func refusals() [][]api.Leaf {
	out := [][]api.Leaf{
		// More than four, also where two of them are of one page, or all the same.
		leaves(1, 2, 3, 4, 5), leaves(0, 1, 2, 3, 0), leaves(1, 1, 1, 1, 1), leaves(9, 8, 7, 6, 5, 4, 3, 2), make([]api.Leaf, 100),
		// Two of one page: beside one another, apart, and such as differ but for the page.
		leaves(1, 1), leaves(0, 0), leaves(255, 255), leaves(1, 2, 1), leaves(2, 1, 1), leaves(1, 1, 2), leaves(1, 2, 3, 1), leaves(1, 2, 3, 3),
		leaves(4, 4, 4, 4), leaves(1, 2, 2, 3), leaves(1, 2, 3, 2),
		{leaf(1), {Page: 1, Frame: 99, Rights: 5}}, {leaf(1), {Page: 1, Frame: 11, Rights: 0}}, {{}, {Frame: 1}},
	}
	// A leaf that may not be: alone, first, last, and as the fourth one.
	for _, l := range noLeaves() {
		out = append(out, []api.Leaf{l}, []api.Leaf{l, leaf(9)}, []api.Leaf{leaf(9), l}, append(leaves(7, 8, 9), l))
	}
	return out
}

// P8.4: all that Restore refuses, and that nothing has changed then.
func TestRestoreRefuses(t *testing.T) {
	empty, full := tlb.New(), filled(t, 0, 3, 1, 255)
	for _, l := range refusals() {
		restores(t, empty, l, api.ErrTLBLeaves)
		tells(t, empty, nil)
		restores(t, full, l, api.ErrTLBLeaves)
		tells(t, full, leaves(0, 3, 1, 255))
	}
}

// R5: what Leaves tells is new each time, the room behind its end too.
func TestLeavesAreNew(t *testing.T) {
	for many := range most + 1 {
		held := []int{5, 6, 7, 8}[:many]
		x := filled(t, held...)
		got, again := x.Leaves(), x.Leaves()
		clear(got[:cap(got)])
		tells(t, x, leaves(held...))
		_ = append(again, leaf(99))
		tells(t, x, leaves(held...))
		x.Find(5)
		puts(t, x, leaf(9), api.OK)
		x.Flush()
		if !slices.Equal(again, leaves(held...)) {
			t.Errorf("an older answer tells %v", again)
		}
	}
}

// R5: the list that is handed to Restore is neither changed nor kept.
func TestRestoreKeepsNothing(t *testing.T) {
	room := leaves(1, 2, 3, 4, 5)
	given := room[:3]
	x := filled(t, 9, 8)
	restores(t, x, given, api.OK)
	puts(t, x, leaf(6), api.OK)
	puts(t, x, leaf(7), api.OK)
	puts(t, x, api.Leaf{Page: 3, Frame: 99}, api.OK)
	if !slices.Equal(room, leaves(1, 2, 3, 4, 5)) {
		t.Errorf("what was given is %v", room)
	}
	restores(t, x, given, api.OK)
	clear(room)
	tells(t, x, leaves(1, 2, 3))
}
