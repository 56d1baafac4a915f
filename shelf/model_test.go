package shelf_test

import (
	"math/rand/v2"
	"sync"
	"testing"

	"bulkhead/shelf"
)

// record is what is written down of a thing: what it is, and in which turn it was used last.
type record struct {
	thing int
	used  int
}

// ledger reckons a shelf by the turns in which its things were used, without any order kept.
type ledger struct {
	room    int
	turn    int
	records map[int]record
}

func newLedger(room int) *ledger { return &ledger{room: room, records: map[int]record{}} }

// least tells the key whose use is the longest ago, of those used later than some turn.
func (l *ledger) least(behind int) (int, bool) {
	best, found := 0, false
	for k, r := range l.records {
		if r.used > behind && (!found || r.used < l.records[best].used) {
			best, found = k, true
		}
	}
	return best, found
}

func (l *ledger) get(k int) (int, bool) {
	r, ok := l.records[k]
	if ok {
		l.turn++
		l.records[k] = record{r.thing, l.turn}
	}
	return r.thing, ok
}

func (l *ledger) put(k, v int) (int, bool) {
	gone, went := 0, false
	if _, ok := l.records[k]; !ok && len(l.records) == l.room {
		gone, went = l.least(0)
		delete(l.records, gone)
	}
	l.turn++
	l.records[k] = record{v, l.turn}
	return gone, went
}

func (l *ledger) drop(k int) bool {
	_, ok := l.records[k]
	delete(l.records, k)
	return ok
}

// same asks a shelf for all that the ledger knows.
func (l *ledger) same(t *testing.T, s *shelf.Shelf[int, int]) {
	t.Helper()
	if s.Len() != len(l.records) || s.Len() > l.room || s.Room() != l.room {
		t.Fatalf("%d things, room %d, want %d, %d", s.Len(), s.Room(), len(l.records), l.room)
	}
	last, told := 0, 0
	for k, v := range s.All() {
		want, ok := l.least(last)
		if !ok || k != want || v != l.records[k].thing {
			t.Fatalf("All tells %d %d, want key %d, thing %d", k, v, want, l.records[want].thing)
		}
		last = l.records[k].used
		told++
	}
	if told != len(l.records) {
		t.Fatalf("All tells %d things, want %d", told, len(l.records))
	}
}

// step does one thing to a shelf and to the ledger, and holds their answers beside one another.
func (l *ledger) step(t *testing.T, s *shelf.Shelf[int, int], r *rand.Rand) {
	t.Helper()
	k, v := r.IntN(2*l.room+2), r.IntN(1000)
	switch r.IntN(20) {
	case 0, 1, 2, 3, 4, 5, 6, 7:
		want, wantOK := l.put(k, v)
		answers(t, "Put", want, wantOK)(s.Put(k, v))
	case 8, 9, 10, 11, 12, 13:
		want, wantOK := l.get(k)
		answers(t, "Get", want, wantOK)(s.Get(k))
	case 14, 15, 16:
		want, wantOK := l.records[k]
		answers(t, "Peek", want.thing, wantOK)(s.Peek(k))
	case 17, 18:
		if got, want := s.Drop(k), l.drop(k); got != want {
			t.Errorf("Drop(%d): %v, want %v", k, got, want)
		}
	default:
		if r.IntN(10) == 0 {
			s.Clear()
			clear(l.records)
		}
	}
}

// P6.2 to P6.6, P6.8: rows of calls without a plan, held against the ledger: the one that goes is the one used the longest ago.
func TestLedger(t *testing.T) {
	r := rand.New(rand.NewPCG(6, 1))
	for _, room := range []int{1, 2, 3, 4, 5, 8, 13} {
		for range 30 {
			s, l := made[int, int](t, room), newLedger(room)
			for range 200 {
				l.step(t, s, r)
				l.same(t, s)
			}
			if t.Failed() {
				return
			}
		}
	}
}

// P6.8: at the greatest room, too, the things that stay are those put or got last.
func TestLedgerGreatestRoom(t *testing.T) {
	s := made[int, int](t, mostRoom)
	for k := range mostRoom {
		s.Put(k, k)
	}
	for k := 0; k < mostRoom; k += 2 {
		s.Get(k)
	}
	for k := 1; k < mostRoom; k += 2 {
		answers(t, "Put", k, true)(s.Put(k+mostRoom, 0))
	}
	for k := 0; k < mostRoom; k += 2 {
		answers(t, "Put", k, true)(s.Put(k+3*mostRoom, 0))
	}
	if s.Len() != mostRoom {
		t.Errorf("%d things", s.Len())
	}
}

// P6.9: a shelf that is asked for what changes nothing, again and again, tells the same as one that is not.
func TestAsksChangeNothing(t *testing.T) {
	r := rand.New(rand.NewPCG(6, 2))
	quiet, asked := made[int, int](t, 5), made[int, int](t, 5)
	for range 5000 {
		for range r.IntN(3) {
			asked.Peek(r.IntN(12))
			asked.Len()
			asked.Room()
			asked.All()
			for range asked.All() {
				if r.IntN(3) == 0 {
					break
				}
			}
		}
		k, v := r.IntN(12), r.IntN(1000)
		switch r.IntN(8) {
		case 0, 1, 2, 3:
			gone, went := quiet.Put(k, v)
			answers(t, "Put", gone, went)(asked.Put(k, v))
		case 4, 5, 6:
			thing, ok := quiet.Get(k)
			answers(t, "Get", thing, ok)(asked.Get(k))
		default:
			if quiet.Drop(k) != asked.Drop(k) {
				t.Errorf("Drop(%d) differs", k)
			}
		}
		if quiet.Len() != asked.Len() {
			t.Fatalf("%d things, and %d", quiet.Len(), asked.Len())
		}
	}
}

// P6.9: what is done to one shelf is not seen by another one.
func TestShelvesApart(t *testing.T) {
	a, b := filled(t, 3, 3), filled(t, 3, 3)
	a.Put(4, "d")
	a.Get(2)
	a.Put(3, "z")
	holds(t, "the other shelf", b, "1 a, 2 b, 3 c")
	a.Drop(2)
	holds(t, "the other shelf", b, "1 a, 2 b, 3 c")
	for k := range a.All() {
		b.Drop(k)
	}
	holds(t, "the one", a, "4 d, 3 z")
	a.Clear()
	holds(t, "the other shelf", b, "1 a, 2 b")
	b.Put(5, "e")
	holds(t, "the one", a, "")
}

// P6.9: shelves in goroutines of their own answer as one alone does (under the race detector: they touch nothing in common).
func TestShelvesSideBySide(t *testing.T) {
	row := func() int {
		s, _ := shelf.New[int, int](4)
		r := rand.New(rand.NewPCG(6, 3))
		sum := 0
		for range 3000 {
			k := r.IntN(9)
			gone, _ := s.Put(k, sum)
			thing, _ := s.Get(r.IntN(9))
			sum = (sum*31 + gone + thing) % 1000003
			for k, v := range s.All() {
				sum = (sum*31 + k + v) % 1000003
			}
			if k == 0 {
				s.Drop(r.IntN(9))
			}
		}
		return sum
	}
	want := row()
	sums := make([]int, 8)
	var group sync.WaitGroup
	for i := range sums {
		group.Go(func() { sums[i] = row() })
	}
	group.Wait()
	for i, sum := range sums {
		if sum != want {
			t.Errorf("the %d-th shelf: %d, want %d", i, sum, want)
		}
	}
}
