package lock_test

import (
	"math"
	"slices"
	"testing"

	"bulkhead/api"
	"bulkhead/lock"
	"bulkhead/mem"
)

// steps does as many Steps as there are answers wanted.
func steps(t *testing.T, c *lock.Chain, m *mem.Memory, want ...bool) {
	t.Helper()
	for i, w := range want {
		if did, e := c.Step(m); did != w || e != api.OK {
			t.Errorf("Step %d: %v, error %d, want %v", i, did, e, w)
		}
	}
}

// backs does as many Backs as there are answers wanted.
func backs(t *testing.T, c *lock.Chain, m *mem.Memory, want ...bool) {
	t.Helper()
	for i, w := range want {
		if none, e := c.Back(m); none != w || e != api.OK {
			t.Errorf("Back %d: %v, error %d, want %v", i, none, e, w)
		}
	}
}

// stepFails and backFails ask for an error, and that the chain and the memory are as they were.
func stepFails(t *testing.T, c *lock.Chain, m *mem.Memory, want api.Errno) {
	t.Helper()
	fails(t, c, m, want, "Step", c.Step)
}

func backFails(t *testing.T, c *lock.Chain, m *mem.Memory, want api.Errno) {
	t.Helper()
	fails(t, c, m, want, "Back", c.Back)
}

func fails(t *testing.T, c *lock.Chain, m *mem.Memory, want api.Errno, name string, call func(*mem.Memory) (bool, api.Errno)) {
	t.Helper()
	words := m.Words()
	held, asked, tickets := c.State()
	all := c.All()
	if got, e := call(m); got || e != want {
		t.Errorf("%s: %v, error %d, want error %d", name, got, e, want)
	}
	tells(t, c, held, asked, tickets...)
	has(t, c, all)
	stays(t, m, words)
}

// tells asks for a chain's state.
func tells(t *testing.T, c *lock.Chain, held int, asked bool, tickets ...uint32) {
	t.Helper()
	if h, a, l := c.State(); h != held || a != asked || !slices.Equal(l, tickets) {
		t.Errorf("State: %d %v %x, want %d %v %x", h, a, l, held, asked, tickets)
	}
}

// has asks whether a chain has all its locks.
func has(t *testing.T, c *lock.Chain, all bool) {
	t.Helper()
	if c.All() != all {
		t.Errorf("All: %v, want %v", !all, all)
	}
}

// restored makes a chain that must be.
func restored(t *testing.T, locks []int, held int, asked bool, tickets ...uint32) *lock.Chain {
	t.Helper()
	c, e := lock.Restore(locks, held, asked, tickets)
	if c == nil || e != api.OK {
		t.Fatalf("Restore(%v, %d, %v, %v): error %d", locks, held, asked, tickets, e)
	}
	return c
}

// The chapter's examples of chains, one behind the other.
func TestChainExamples(t *testing.T) {
	m := memory(t, 1)
	a, b := lock.New(0, 2), lock.New(2)
	has(t, a, false)
	steps(t, b, m, true, true)
	has(t, b, true)
	steps(t, a, m, true, true, true, false, false)
	tells(t, a, 1, true, 0, 1)
	backFails(t, a, m, api.ErrLockOrder)
	backs(t, b, m, true)
	steps(t, a, m, true)
	has(t, a, true)
	steps(t, a, m, false)
	backs(t, a, m, false, true, true)
	tells(t, a, 0, false)

	has(t, lock.New(), true)
	for _, x := range []struct {
		held    int
		tickets []uint32
	}{{2, []uint32{0, 0, 0}}, {1, []uint32{0}}} {
		if c, e := lock.Restore([]int{0, 2}, x.held, true, x.tickets); c != nil || e != api.ErrArg {
			t.Errorf("Restore of %d and %v: %v, error %d", x.held, x.tickets, c, e)
		}
	}
}

// P17.2: a new chain has none, has asked for none, and has touched nothing; of no locks it has all.
func TestNew(t *testing.T) {
	for _, locks := range [][]int{{0}, {4, 2, 0}, {-1}, {1 << 40, math.MinInt, math.MaxInt}, {3, 3}} {
		c := lock.New(locks...)
		tells(t, c, 0, false)
		has(t, c, false)
		backs(t, c, memory(t, 1), true)
		tells(t, c, 0, false)
	}
	m := memory(t, 1)
	for _, c := range []*lock.Chain{lock.New(), lock.New([]int{}...), restored(t, nil, 0, false), restored(t, []int{}, 0, false)} {
		has(t, c, true)
		tells(t, c, 0, false)
		steps(t, c, m, false, false)
		backs(t, c, m, true, true)
		has(t, c, true)
		steps(t, c, m, false)
	}
	stays(t, m, make([]uint32, 16))
}

// P17.2, P17.3, P17.4: the locks come in the order in which they were given, whatever their places, and go the other way round, one thing at a time.
func TestOrder(t *testing.T) {
	locks := []int{6, 0, 12, 3}
	m := memory(t, 1)
	for i, at := range locks {
		lay(t, m, at, uint32(10*i), uint32(10*i))
	}
	c, tickets := lock.New(locks...), []uint32{}
	for i, at := range locks {
		has(t, c, false)
		steps(t, c, m, true)
		tickets = append(tickets, uint32(10*i))
		tells(t, c, i, true, tickets...)
		lies(t, m, at, uint32(10*i+1), uint32(10*i))
		has(t, c, false)
		words := m.Words()
		steps(t, c, m, true)
		stays(t, m, words)
		tells(t, c, i+1, false, tickets...)
	}
	has(t, c, true)
	words := m.Words()
	steps(t, c, m, false, false)
	stays(t, m, words)
	for i := len(locks) - 1; i >= 0; i-- {
		backs(t, c, m, i == 0)
		tells(t, c, i, false, tickets[:i]...)
		has(t, c, false)
		lies(t, m, locks[i], uint32(10*i+1), uint32(10*i+1))
	}
	words = m.Words()
	backs(t, c, m, true, true)
	stays(t, m, words)
}

// P17.3: a step of a chain whose turn has not come changes nothing, however often.
func TestWaits(t *testing.T) {
	m := memory(t, 1)
	takes(t, m, 4, 0, api.OK)
	takes(t, m, 4, 1, api.OK)
	c := lock.New(4, 8)
	steps(t, c, m, true)
	for turn := range uint32(2) {
		words := m.Words()
		steps(t, c, m, false, false, false)
		stays(t, m, words)
		tells(t, c, 0, true, 2)
		frees(t, m, 4, turn, api.OK)
	}
	steps(t, c, m, true)
	tells(t, c, 1, false, 2)
	waits(t, m, 8, 0, api.OK)
}

// P17.4: a Step behind a Back asks for the lock anew, behind those that wait for it.
func TestAnew(t *testing.T) {
	m := memory(t, 1)
	a, b := lock.New(0, 2), lock.New(2)
	steps(t, a, m, true, true, true, true)
	steps(t, b, m, true, false)
	backs(t, a, m, false)
	has(t, a, false)
	tells(t, a, 1, false, 0)
	steps(t, a, m, true, false)
	tells(t, a, 1, true, 0, 2)
	steps(t, b, m, true, false)
	backs(t, b, m, true)
	steps(t, a, m, true, false)
	tells(t, a, 2, false, 0, 2)
	backs(t, a, m, false, true)
	lies(t, m, 0, 1, 1)
	lies(t, m, 2, 3, 3)
}

// P17.3: the errors of Take and of Mine; chain and memory stay as they were, and it goes on where they are away.
func TestStepErrors(t *testing.T) {
	for _, at := range []int{-1, 15, 16, math.MinInt, math.MaxInt} {
		m := memory(t, 1)
		stepFails(t, lock.New(at), m, api.ErrMemAt)
		c := lock.New(2, at)
		steps(t, c, m, true, true)
		stepFails(t, c, m, api.ErrMemAt)
		stepFails(t, c, m, api.ErrMemAt)
		tells(t, c, 1, false, 0)
		backs(t, c, m, true)

		stepFails(t, restored(t, []int{2, at}, 1, true, 0, 0), m, api.ErrMemAt)
	}

	m := memory(t, 1)
	lay(t, m, 8, 4, 5)
	c := lock.New(2, 8)
	steps(t, c, m, true, true)
	stepFails(t, c, m, api.ErrLockOrder)
	frees(t, m, 8, 5, api.OK)
	steps(t, c, m, true, false)
	tells(t, c, 1, true, 0, 4)

	small, great := memory(t, 1), memory(t, 2)
	d := lock.New(20)
	stepFails(t, d, small, api.ErrMemAt)
	steps(t, d, great, true)
	stepFails(t, d, small, api.ErrMemAt)
	steps(t, d, great, true)
	has(t, d, true)
	steps(t, d, small, false)
}

// P17.4: the errors of Back; chain and memory stay as they were.
func TestBackErrors(t *testing.T) {
	m := memory(t, 1)
	c := lock.New(0)
	steps(t, c, m, true)
	backFails(t, c, m, api.ErrLockOrder)
	steps(t, c, m, true)
	backs(t, c, m, true)

	for _, at := range []int{-1, 15, 16, math.MinInt, math.MaxInt} {
		backFails(t, restored(t, []int{2, at}, 2, false, 0, 0), m, api.ErrMemAt)
		backFails(t, restored(t, []int{2, at, 4}, 2, false, 0, 0), m, api.ErrMemAt)
	}

	lay(t, m, 8, 5, 4)
	d := restored(t, []int{8}, 1, false, 3)
	backFails(t, d, m, api.ErrLockOrder)
	lay(t, m, 8, 5, 3)
	backs(t, d, m, true)
	lies(t, m, 8, 5, 4)

	lay(t, m, 8, 4, 4)
	backFails(t, restored(t, []int{8}, 1, false, 4), m, api.ErrLockOrder)
	backFails(t, restored(t, []int{8, 10}, 1, false, 4), m, api.ErrLockOrder)
}

// P17.4: that it has asked is told ahead of what is wrong with the lock, and of a chain that has none.
func TestBackAsked(t *testing.T) {
	m := memory(t, 1)
	backFails(t, restored(t, []int{-1}, 0, true, 0), m, api.ErrLockOrder)
	backFails(t, restored(t, []int{-1, 0}, 1, true, 0, 0), m, api.ErrLockOrder)
	backFails(t, restored(t, []int{0, -1}, 1, true, 0, 0), m, api.ErrLockOrder)
}

// P17.2: a lock that stands in a chain twice is waited for in vain.
func TestTwice(t *testing.T) {
	m := memory(t, 1)
	c := lock.New(4, 4)
	steps(t, c, m, true, true, true, false, false, false)
	tells(t, c, 1, true, 0, 1)
	backFails(t, c, m, api.ErrLockOrder)
	has(t, c, false)
}

// P17.3: tickets of a chain go on behind the greatest word.
func TestChainRoundTheEnd(t *testing.T) {
	m := memory(t, 1)
	lay(t, m, 0, top, top)
	a, b := lock.New(0), lock.New(0)
	steps(t, a, m, true, true)
	steps(t, b, m, true, false)
	tells(t, a, 1, false, top)
	tells(t, b, 0, true, 0)
	backs(t, a, m, true)
	steps(t, b, m, true)
	backs(t, b, m, true)
	lies(t, m, 0, 1, 1)
}

// P17.5: which states may be: all that few numbers can say.
func TestWhichMayBe(t *testing.T) {
	for locks := range 4 {
		for held := -2; held <= 6; held++ {
			for tickets := range 8 {
				mayBe(t, locks, held, false, tickets, held >= 0 && held <= locks && tickets == held)
				mayBe(t, locks, held, true, tickets, held >= 0 && held < locks && tickets == held+1)
			}
		}
		for _, held := range []int{math.MinInt, math.MinInt32, math.MaxInt32, math.MaxInt, 1 << 32, 1<<32 + 1} {
			for tickets := range 4 {
				mayBe(t, locks, held, false, tickets, false)
				mayBe(t, locks, held, true, tickets, false)
			}
		}
	}
}

// mayBe restores a chain of so many locks and tickets, and asks whether it may be; if so, State must tell the same.
func mayBe(t *testing.T, locks, held int, asked bool, tickets int, want bool) {
	t.Helper()
	places, list := make([]int, locks), make([]uint32, tickets)
	for i := range list {
		list[i] = top - uint32(3*i)
	}
	c, e := lock.Restore(places, held, asked, list)
	if !want {
		if c != nil || e != api.ErrArg {
			t.Errorf("Restore of %d, %d, %v, %d: %v, error %d", locks, held, asked, tickets, c, e)
		}
		return
	}
	if c == nil || e != api.OK {
		t.Fatalf("Restore of %d, %d, %v, %d: error %d", locks, held, asked, tickets, e)
	}
	tells(t, c, held, asked, list...)
	has(t, c, held == locks)
}

// P17.5: a restored chain holds just these locks and these tickets, and nothing is asked of a memory.
func TestRestored(t *testing.T) {
	m := memory(t, 1)
	lay(t, m, 0, 1, 0)
	lay(t, m, 2, 2, 0)
	c := restored(t, []int{0, 2}, 1, true, 0, 1)
	steps(t, c, m, false)
	frees(t, m, 2, 0, api.OK)
	steps(t, c, m, true)
	has(t, c, true)
	backs(t, c, m, false, true)
	lies(t, m, 0, 1, 1)
	lies(t, m, 2, 2, 2)

	d := restored(t, []int{0, 2, -9}, 2, false, 7, 9)
	lay(t, m, 0, 9, 7)
	lay(t, m, 2, 9, 8)
	backFails(t, d, m, api.ErrLockOrder)
	lay(t, m, 2, 10, 9)
	backs(t, d, m, false, true)
	lies(t, m, 0, 9, 8)
	lies(t, m, 2, 10, 10)
}

// P17.6: of a nil chain, and with a nil memory; the nil is told ahead of all else.
func TestNilChain(t *testing.T) {
	var none *lock.Chain
	m := memory(t, 1)
	has(t, none, false)
	tells(t, none, 0, false)
	nilFor(t, none, m)
	nilFor(t, none, nil)
	for _, c := range []*lock.Chain{
		lock.New(), lock.New(0), lock.New(-1),
		restored(t, []int{0}, 0, true, 0), restored(t, []int{0}, 1, false, 0),
		restored(t, []int{0, -1}, 1, true, 0, 0), restored(t, []int{0, -1}, 1, false, 0),
	} {
		held, asked, tickets := c.State()
		all := c.All()
		nilFor(t, c, nil)
		tells(t, c, held, asked, tickets...)
		has(t, c, all)
	}
	stays(t, m, make([]uint32, 16))
}

// nilFor asks that Step and Back tell ErrNil.
func nilFor(t *testing.T, c *lock.Chain, m *mem.Memory) {
	t.Helper()
	if did, e := c.Step(m); did || e != api.ErrNil {
		t.Errorf("Step: %v, error %d", did, e)
	}
	if done, e := c.Back(m); done || e != api.ErrNil {
		t.Errorf("Back: %v, error %d", done, e)
	}
}

// R5: what was handed in is neither kept nor changed, the room behind its end neither; what is told is the caller's own.
func TestApart(t *testing.T) {
	m := memory(t, 1)
	room := []int{0, 2, 4, 99}
	a := lock.New(room[:3]...)
	room[0], room[1], room[2] = 8, -1, 10
	steps(t, a, m, true, true, true)
	lies(t, m, 0, 1, 0)
	lies(t, m, 2, 1, 0)

	_, _, told := a.State()
	told[0], told[1] = 77, 78
	_ = append(told, 79)
	tells(t, a, 1, true, 0, 0)
	_, _, kept := a.State()
	steps(t, a, m, true, true)
	backFails(t, a, m, api.ErrLockOrder)
	steps(t, a, m, true)
	backs(t, a, m, false, false)
	steps(t, a, m, true)
	tells(t, a, 1, true, 0, 1)
	if !slices.Equal(kept, []uint32{0, 0}) {
		t.Errorf("what State told: %v", kept)
	}

	n := memory(t, 1)
	lay(t, n, 0, 6, 5)
	places, tickets := []int{0, 2, 98}, []uint32{5, 1000, 1001}
	b := restored(t, places[:2], 1, false, tickets[:1]...)
	steps(t, b, n, true)
	if !slices.Equal(tickets, []uint32{5, 1000, 1001}) || !slices.Equal(places, []int{0, 2, 98}) {
		t.Errorf("what was handed in: %v, %v", places, tickets)
	}
	places[0], places[1], tickets[0], tickets[1] = -1, -1, 44, 45
	steps(t, b, n, true)
	tells(t, b, 2, false, 5, 0)
	backs(t, b, n, false, true)
	lies(t, n, 0, 6, 6)
}

// Two chains made of the same lists have nothing in common but the memory.
func TestTwoChains(t *testing.T) {
	m := memory(t, 1)
	places, tickets := []int{0, 2}, []uint32{0}
	lay(t, m, 0, 1, 0)
	a, b := restored(t, places, 1, false, tickets...), restored(t, places, 1, false, tickets...)
	steps(t, a, m, true)
	tells(t, b, 1, false, 0)
	steps(t, b, m, true)
	tells(t, a, 1, true, 0, 0)
	tells(t, b, 1, true, 0, 1)
}
