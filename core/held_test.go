package core_test

import (
	"fmt"
	"slices"
	"testing"

	"bulkhead/api"
	"bulkhead/core"
)

// full is a state in which nothing more can be held.
func full() api.Held {
	return api.Held{
		Context: anyContext(),
		Lines:   [][]int{{8, 4092}, {13, 1}, {2, 6}, {4095, 3}},
		Leaves:  []api.Leaf{{Page: 255, Frame: 1023, Rights: 7}, {Page: 0, Frame: 3, Rights: 7}, {Page: 9, Frame: 0, Rights: 0}, {Page: 1, Frame: 4, Rights: 1}},
	}
}

// restored makes a core that holds so.
func restored(t *testing.T, h api.Held) *core.Core {
	t.Helper()
	c := core.New()
	if e := c.Restore(h); e != api.OK {
		t.Fatalf("Restore(%v): error %d", h, e)
	}
	return c
}

// P10.4, P10.5: Held tells what a core was made to hold, in the same orders.
func TestHeldOfRestored(t *testing.T) {
	for _, h := range []api.Held{
		full(),
		{Lines: [][]int{{}, {}, {}, {}}},
		{Lines: [][]int{nil, {5}, nil, nil}},
		{Context: api.Context{PC: all}, Lines: [][]int{{4, 0}, nil, nil, {7}}, Leaves: []api.Leaf{{Page: 3}}},
	} {
		c := restored(t, h)
		if got := fmt.Sprint(c.Held()); got != fmt.Sprint(h) {
			t.Errorf("Held: %s, want %v", got, h)
		}
		stands(t, c, h.Context)
	}
}

// P10.4, P10.5: no list of lines is Sets lists of none; what was held goes.
func TestRestoreOfNothing(t *testing.T) {
	for _, lines := range [][][]int{nil, {}} {
		c := restored(t, full())
		if e := c.Restore(api.Held{Lines: lines, Leaves: []api.Leaf{}}); e != api.OK {
			t.Errorf("Restore: error %d", e)
		}
		stands(t, c, api.Context{})
		holds(t, c, nothingHeld)
		if got := c.Held().Lines; len(got) != 4 {
			t.Errorf("%d lists of lines", len(got))
		}
	}
	if got := core.New().Held().Lines; len(got) != 4 {
		t.Errorf("a new core: %d lists of lines", len(got))
	}
}

// P10.4: what no core holds is refused, and the core is as it was, whichever of the two may not be.
func TestRestoreRefused(t *testing.T) {
	none := [][]int{nil, nil, nil, nil}
	fine := full()
	var bad []api.Held
	for _, lines := range [][][]int{
		{nil}, {nil, nil, nil}, {nil, nil, nil, nil, nil},
		{{1}, nil, nil, nil}, {nil, {1, 1}, nil, nil}, {nil, nil, nil, {3, 7, 11}},
		{{-4}, nil, nil, nil}, {{4096}, nil, nil, nil},
	} {
		bad = append(bad, api.Held{Lines: lines}, api.Held{Context: anyContext(), Lines: lines, Leaves: fine.Leaves})
	}
	for _, leaves := range [][]api.Leaf{
		{{Page: 256}}, {{Page: -1}}, {{Frame: 1024}}, {{Frame: -1}}, {{Rights: 8}}, {{Rights: -1}},
		{{Page: 4}, {Page: 4}}, {{Page: 0}, {Page: 1}, {Page: 2}, {Page: 3}, {Page: 4}},
	} {
		bad = append(bad, api.Held{Leaves: leaves}, api.Held{Lines: none, Leaves: leaves}, api.Held{Context: anyContext(), Lines: fine.Lines, Leaves: leaves})
	}
	h := full()
	h.Context.PC, h.Lines[2], h.Leaves = 77, nil, h.Leaves[:3]
	c, fresh := restored(t, h), core.New()
	for _, b := range bad {
		if e := c.Restore(b); e != api.ErrCoreState {
			t.Errorf("Restore(%v): error %d", b, e)
		}
		if got := fmt.Sprint(c.Held()); got != fmt.Sprint(h) {
			t.Fatalf("Held: %s, want %v", got, h)
		}
		if e := fresh.Restore(b); e != api.ErrCoreState {
			t.Errorf("Restore(%v): error %d", b, e)
		}
	}
	stands(t, fresh, api.Context{})
	holds(t, fresh, nothingHeld)
}

// P10.4: what a core was made to hold is what its steps go by: lines of its cache, leaves of its TLB.
func TestRestoredActs(t *testing.T) {
	m := space(t)
	word := laid(t, m, 3, "ld r1, r0, 16")[0]
	for _, row := range []struct {
		lines  [][]int
		leaves []api.Leaf
		cost   int
	}{
		{nil, nil, walk + miss + walk + miss + 1},
		{[][]int{{12}, nil, nil, nil}, nil, walk + hit + walk + miss + 1},
		{[][]int{{12, 16}, nil, nil, nil}, nil, walk + hit + walk + hit + 1},
		{[][]int{{16, 20}, nil, nil, nil}, nil, walk + miss + walk + miss + 1}, // the first one goes for the fetch
		{[][]int{{20, 16}, nil, nil, nil}, nil, walk + miss + walk + hit + 1},
		{nil, []api.Leaf{{Page: 0, Frame: 3, Rights: 4}}, miss + walk + miss + 1},
		{nil, []api.Leaf{{Page: 1, Frame: 4, Rights: 1}, {Page: 0, Frame: 3, Rights: 4}}, miss + miss + 1},
		{nil, []api.Leaf{{Page: 1, Frame: 4, Rights: 1}, {Page: 9}, {Page: 10}, {Page: 11}}, walk + miss + walk + miss + 1}, // and so does this one's leaf
		{nil, []api.Leaf{{Page: 9}, {Page: 1, Frame: 4, Rights: 1}, {Page: 10}, {Page: 11}}, walk + miss + miss + 1},
	} {
		c := restored(t, api.Held{Context: registers(), Lines: row.lines, Leaves: row.leaves})
		acts(t, c, m, api.Act{Cost: row.cost, Call: -1, PC: 3, Word: word, Read: true, Addr: 16})
	}
}

// P10.5: a core that holds what another one holds goes on like it, and the two have nothing in common.
func TestTwoAlike(t *testing.T) {
	m := space(t)
	laid(t, m, 0, "addi r1, r1, 1\nld r2, r0, 16\nst r1, r0, 64\nld r3, r0, 224\nld r3, r0, 4080\nld r4, r0, 64\njmp -6")
	c := core.New()
	for n := range 40 {
		h := c.Held()
		other, words := restored(t, h), m.Clone()
		if act, again := steps(t, c, m, root, uint32(n)), steps(t, other, words, root, uint32(n)); act != again {
			t.Fatalf("step %d: %+v and %+v", n, act, again)
		}
		unchanged(t, m, words)
		if fmt.Sprint(c.Held()) != fmt.Sprint(other.Held()) {
			t.Fatalf("step %d: %v and %v", n, c.Held(), other.Held())
		}
		other.Flush()
		other.Set(anyContext())
		if c.Context() == anyContext() || len(c.Held().Leaves) == 0 {
			t.Fatalf("step %d: the other core's Flush or Set", n)
		}
	}
}

// R5: the lists that Held tells are new each time, apart from one another and from what the core keeps, the room behind their ends too.
func TestHeldIsNew(t *testing.T) {
	c := restored(t, full())
	want := fmt.Sprint(full())
	got, again := c.Held(), c.Held()
	for _, list := range got.Lines[:cap(got.Lines)] {
		room := list[:cap(list)]
		for i := range room {
			room[i] = -1
		}
	}
	clear(got.Lines[:cap(got.Lines)])
	clear(got.Leaves[:cap(got.Leaves)])
	for s := range again.Lines {
		_ = append(again.Lines[s], 99)
	}
	_ = append(again.Leaves, api.Leaf{Page: 99})
	if fmt.Sprint(c.Held()) != want || fmt.Sprint(again) != want {
		t.Errorf("Held: %v, another answer: %v, want %s", c.Held(), again, want)
	}
	c.Flush()
	if fmt.Sprint(again) != want {
		t.Errorf("behind a Flush an older answer tells %v", again)
	}
}

// R5: what is handed to Restore is neither changed nor kept.
func TestRestoreKeepsNothing(t *testing.T) {
	h := full()
	lines, leaves := []int{8, 4092, 77, 78}, append(full().Leaves, api.Leaf{Page: 80}, api.Leaf{Page: 81})
	h.Lines[0], h.Leaves = lines[:2], leaves[:4]
	c := restored(t, h)
	m := space(t)
	laid(t, m, 3, "ld r1, r1, 0")
	c.Set(registers(64))
	steps(t, c, m, root, 0)
	if fmt.Sprint(h) != fmt.Sprint(full()) || !slices.Equal(lines, []int{8, 4092, 77, 78}) || leaves[4].Page != 80 || leaves[5].Page != 81 {
		t.Errorf("what was given is %v, %v, %v", h, lines, leaves)
	}
	before := fmt.Sprint(c.Held())
	lines[0], h.Lines[1], h.Leaves[1].Frame = 12, nil, 9
	h.Leaves[3] = api.Leaf{}
	if got := fmt.Sprint(c.Held()); got != before {
		t.Errorf("Held: %s, want %s", got, before)
	}
}
