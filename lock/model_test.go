package lock_test

import (
	"fmt"
	"math/rand/v2"
	"slices"
	"testing"

	"bulkhead/api"
	"bulkhead/lock"
	"bulkhead/mem"
)

// row is who stands at a lock: the one who has it, or asked first, ahead. Its words begin at some number.
type row struct {
	first uint32
	gone  int
	who   []int
}

// member is how far a chain must be: its locks, how many it has, whether it has asked for the next one, and its tickets.
type member struct {
	locks   []int
	held    int
	asked   bool
	tickets []uint32
}

// world is some chains at some locks of one memory, and what must be of them: people who stand in rows.
type world struct {
	m       *mem.Memory
	chains  []*lock.Chain
	members []member
	rows    map[int]*row
}

// newWorld makes locks at these places, whose words begin at any number, and chains of these locks.
func newWorld(t *testing.T, r *rand.Rand, places []int, locks [][]int) *world {
	t.Helper()
	w := &world{m: memory(t, 2), rows: map[int]*row{}}
	for _, at := range places {
		first := []uint32{0, 1000, top, top - 3, r.Uint32()}[r.IntN(5)]
		w.rows[at] = &row{first: first}
		lay(t, w.m, at, first, first)
	}
	for _, l := range locks {
		w.chains = append(w.chains, lock.New(l...))
		w.members = append(w.members, member{locks: l})
	}
	return w
}

// moves tells whether a chain's next Step must do something.
func (w *world) moves(i int) bool {
	p := w.members[i]
	if p.held == len(p.locks) {
		return false
	}
	return !p.asked || w.rows[p.locks[p.held]].who[0] == i
}

// step does a Step of a chain, and asks for its answer.
func (w *world) step(t *testing.T, i int) {
	t.Helper()
	want := w.moves(i)
	p := &w.members[i]
	if did, e := w.chains[i].Step(w.m); did != want || e != api.OK {
		t.Errorf("chain %d: Step: %v, error %d, want %v", i, did, e, want)
	}
	switch {
	case !want:
	case p.asked:
		p.asked = false
		p.held++
	default:
		x := w.rows[p.locks[p.held]]
		p.tickets = append(p.tickets, x.first+uint32(x.gone+len(x.who)))
		x.who = append(x.who, i)
		p.asked = true
	}
}

// back does a Back of a chain, and asks for its answer.
func (w *world) back(t *testing.T, i int) {
	t.Helper()
	p, want, fault := &w.members[i], false, api.OK
	switch {
	case p.asked:
		fault = api.ErrLockOrder
	case p.held == 0:
		want = true
	default:
		p.held--
		p.tickets = p.tickets[:p.held]
		x := w.rows[p.locks[p.held]]
		if x.who[0] != i {
			t.Errorf("chain %d has a lock that chain %d has", i, x.who[0])
		}
		x.who = x.who[1:]
		x.gone++
		want = p.held == 0
	}
	if none, e := w.chains[i].Back(w.m); none != want || e != fault {
		t.Errorf("chain %d: Back: %v, error %d, want %v, error %d", i, none, e, want, fault)
	}
}

// fits asks that chains and memory are as the rows are, and that at most one chain has each lock.
func (w *world) fits(t *testing.T) {
	t.Helper()
	words := make([]uint32, 32)
	for at, x := range w.rows {
		words[at] = x.first + uint32(x.gone+len(x.who))
		words[at+1] = x.first + uint32(x.gone)
		waits(t, w.m, at, len(x.who), api.OK)
	}
	stays(t, w.m, words)
	have := map[int]int{}
	for i, c := range w.chains {
		p := w.members[i]
		tells(t, c, p.held, p.asked, p.tickets...)
		has(t, c, p.held == len(p.locks))
		held, _, _ := c.State()
		for _, at := range p.locks[:held] {
			have[at]++
		}
	}
	for at, many := range have {
		if many > 1 {
			t.Errorf("%d chains have the lock at %d", many, at)
		}
	}
}

// goesOn asks that there is a chain that has all, or one whose next Step does something (tried in a copy of all).
func (w *world) goesOn(t *testing.T) {
	t.Helper()
	for i, c := range w.chains {
		held, asked, tickets := c.State()
		again := restored(t, w.members[i].locks, held, asked, tickets...)
		if did, e := again.Step(w.m.Clone()); c.All() || did && e == api.OK {
			return
		}
	}
	t.Error("all chains are kept waiting")
}

// String tells where all chains stand.
func (w *world) String() string { return fmt.Sprintf("%+v", w.members) }

// picks draws chains of locks among places: in the places' order, if they are to be sorted by it, else in any.
func picks(r *rand.Rand, places []int, chains int, sorted bool) [][]int {
	var out [][]int
	for range chains {
		which := r.Perm(len(places))[:r.IntN(len(places)+1)]
		if sorted {
			slices.Sort(which)
		}
		var l []int
		for _, i := range which {
			l = append(l, places[i])
		}
		out = append(out, l)
	}
	return out
}

// P17.7: chains in any order of calls: one has a lock at a time, in the order in which they asked; and in one order of all locks there is always one that goes on.
func TestRows(t *testing.T) {
	for seed := range uint64(200) {
		r := rand.New(rand.NewPCG(seed, 17))
		places := []int{30, 0, 14, 7, 20}[:1+r.IntN(5)]
		sorted := seed%4 != 0
		w := newWorld(t, r, places, picks(r, places, 1+r.IntN(5), sorted))
		for range 400 {
			i := r.IntN(len(w.chains))
			if r.IntN(4) > 0 {
				w.step(t, i)
			} else {
				w.back(t, i)
			}
			w.fits(t)
			if sorted {
				w.goesOn(t)
			}
			if t.Failed() {
				t.Fatalf("seed %d, chain %d: %v", seed, i, w)
			}
		}
	}
}

// P17.7: whoever has asked has the lock by its next Step, as soon as all that asked ahead have given it back, and not ahead of that.
func TestInTurn(t *testing.T) {
	for seed := range uint64(20) {
		r := rand.New(rand.NewPCG(seed, 18))
		w := newWorld(t, r, []int{5}, [][]int{{5}, {5}, {5}, {5}, {5}, {5}})
		order := r.Perm(len(w.chains))
		for _, i := range order {
			steps(t, w.chains[i], w.m, true)
		}
		for k, i := range order {
			for _, later := range order[k+1:] {
				steps(t, w.chains[later], w.m, false)
			}
			steps(t, w.chains[i], w.m, true, false)
			has(t, w.chains[i], true)
			for _, later := range order[k+1:] {
				steps(t, w.chains[later], w.m, false)
			}
			backs(t, w.chains[i], w.m, true)
		}
	}
}

// P17.7: in one order of all locks all chains come to have all, and to none, whoever is picked, if each goes on in turn.
func TestAllComeThrough(t *testing.T) {
	for seed := range uint64(50) {
		r := rand.New(rand.NewPCG(seed, 19))
		places := []int{20, 4, 16, 0}
		w := newWorld(t, r, places, picks(r, places, 4, true))
		through := make([]bool, len(w.chains))
		for round := 0; slices.Contains(through, false); round++ {
			if round > 1000 {
				t.Fatalf("seed %d: not through: %v", seed, w)
			}
			for _, i := range r.Perm(len(w.chains)) {
				if through[i] {
					continue
				}
				w.step(t, i)
				if w.chains[i].All() {
					w.leave(t, i)
					through[i] = true
				}
			}
			w.fits(t)
			if t.Failed() {
				t.Fatalf("seed %d, round %d: %v", seed, round, w)
			}
		}
		for at, x := range w.rows {
			waits(t, w.m, at, 0, api.OK)
			lies(t, w.m, at, x.first+uint32(x.gone), x.first+uint32(x.gone))
		}
	}
}

// leave gives all locks of a chain back.
func (w *world) leave(t *testing.T, i int) {
	t.Helper()
	for w.members[i].held > 0 {
		w.back(t, i)
	}
}

// P17.7: in unlike orders two chains may keep one another waiting: that is why one order is asked for.
func TestUnlikeOrders(t *testing.T) {
	m := memory(t, 1)
	a, b := lock.New(0, 2), lock.New(2, 0)
	steps(t, a, m, true, true)
	steps(t, b, m, true, true)
	steps(t, a, m, true, false)
	steps(t, b, m, true, false)
	steps(t, a, m, false)
	backFails(t, a, m, api.ErrLockOrder)
	backFails(t, b, m, api.ErrLockOrder)
}

// P17.8: a world whose chains are made anew of what they tell, ever again, goes on as one whose chains stay.
func TestAgain(t *testing.T) {
	for seed := range uint64(100) {
		r := rand.New(rand.NewPCG(seed, 20))
		places := []int{9, 0, 24}
		w := newWorld(t, r, places, picks(r, places, 3, true))
		other := w.m.Clone()
		again := make([]*lock.Chain, len(w.chains))
		for range 300 {
			i := r.IntN(len(w.chains))
			for j, c := range w.chains {
				held, asked, tickets := c.State()
				if again[j] == nil || r.IntN(3) == 0 {
					again[j] = restored(t, w.members[j].locks, held, asked, tickets...)
				}
			}
			one, two := w.chains[i].Step, again[i].Step
			if r.IntN(3) == 0 {
				one, two = w.chains[i].Back, again[i].Back
			}
			sameAnswer(t, one, two, w.m, other)
			sameChain(t, w.chains[i], again[i])
			stays(t, other, w.m.Words())
			if t.Failed() {
				t.Fatalf("seed %d, chain %d", seed, i)
			}
		}
	}
}

// sameAnswer does the same thing in two memories, and asks that the answers are the same.
func sameAnswer(t *testing.T, one, two func(*mem.Memory) (bool, api.Errno), m, n *mem.Memory) {
	t.Helper()
	want, fault := one(m)
	if got, e := two(n); got != want || e != fault {
		t.Errorf("made anew: %v, error %d, want %v, error %d", got, e, want, fault)
	}
}

// sameChain asks that two chains tell the same of themselves.
func sameChain(t *testing.T, one, two *lock.Chain) {
	t.Helper()
	held, asked, tickets := one.State()
	tells(t, two, held, asked, tickets...)
	has(t, two, one.All())
}

// P17.8: at each stage of a chain's way, also where its tickets are none of the memory's, the restored one does the same to the very end.
func TestAgainAtEachStage(t *testing.T) {
	locks := []int{0, 2, 4}
	for held := range len(locks) + 1 {
		for _, asked := range []bool{false, held < len(locks)} {
			tickets := []uint32{5, 6, 7, 8}[:held]
			if asked {
				tickets = []uint32{5, 6, 7, 8}[:held+1]
			}
			m := memory(t, 1)
			for i, at := range locks {
				lay(t, m, at, uint32(8+i), uint32(5+i))
			}
			one := restored(t, locks, held, asked, tickets...)
			n := m.Clone()
			for range 12 {
				h, a, l := one.State()
				two := restored(t, locks, h, a, l...)
				sameChain(t, one, two)
				sameAnswer(t, one.Step, two.Step, m, n)
				sameChain(t, one, two)
				sameAnswer(t, one.Back, two.Back, m, n)
				sameChain(t, one, two)
				stays(t, n, m.Words())
			}
		}
	}
}
