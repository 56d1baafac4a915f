package shelf_test

import (
	"iter"
	"math"
	"slices"
	"strconv"
	"strings"
	"testing"

	"bulkhead/api"
	"bulkhead/shelf"
)

// The greatest room by the number that the document prints.
const mostRoom = 4096

// made makes a shelf with that room.
func made[K comparable, V any](t *testing.T, room int) *shelf.Shelf[K, V] {
	t.Helper()
	s, e := shelf.New[K, V](room)
	if s == nil || e != api.OK {
		t.Fatalf("New(%d): %v, error %d", room, s, e)
	}
	return s
}

// filled makes a shelf with that room and puts things under the keys 1, 2 and so on: a, b and so on.
func filled(t *testing.T, room, things int) *shelf.Shelf[int, string] {
	t.Helper()
	s := made[int, string](t, room)
	for k := 1; k <= things; k++ {
		s.Put(k, letter(k))
	}
	return s
}

// letter tells the k-th letter.
func letter(k int) string { return string(rune('a' + k - 1)) }

// line writes what a range goes through: "1 a, 2 b".
func line(all iter.Seq2[int, string]) string {
	var out []string
	for k, v := range all {
		out = append(out, strconv.Itoa(k)+" "+v)
	}
	return strings.Join(out, ", ")
}

// holds asks for the things of a shelf, the least lately used first, and for their number.
func holds(t *testing.T, what string, s *shelf.Shelf[int, string], want string) {
	t.Helper()
	if got := line(s.All()); got != want {
		t.Errorf("%s: things %q, want %q", what, got, want)
	}
	things := 0
	if want != "" {
		things = strings.Count(want, ",") + 1
	}
	if got := s.Len(); got != things {
		t.Errorf("%s: Len %d, want %d", what, got, things)
	}
}

// answers asks for the two results of a call.
func answers[T comparable](t *testing.T, what string, want T, wantOK bool) func(T, bool) {
	return func(got T, ok bool) {
		t.Helper()
		if got != want || ok != wantOK {
			t.Errorf("%s: %v %v, want %v %v", what, got, ok, want, wantOK)
		}
	}
}

// The chapter's examples, line by line.
func TestExamples(t *testing.T) {
	s := made[int, string](t, 2)
	answers(t, "Put(1, a)", 0, false)(s.Put(1, "a"))
	answers(t, "Put(2, b)", 0, false)(s.Put(2, "b"))
	holds(t, "Put, Put", s, "1 a, 2 b")
	answers(t, "Get(1)", "a", true)(s.Get(1))
	holds(t, "Get(1)", s, "2 b, 1 a")
	answers(t, "Peek(2)", "b", true)(s.Peek(2))
	holds(t, "Peek(2)", s, "2 b, 1 a")
	answers(t, "Put(3, c)", 2, true)(s.Put(3, "c"))
	holds(t, "Put(3, c)", s, "1 a, 3 c")
	answers(t, "Get(2)", "", false)(s.Get(2))
	if s.Drop(2) {
		t.Error("Drop(2): true")
	}
	holds(t, "Get(2), Drop(2)", s, "1 a, 3 c")
	answers(t, "Put(1, z)", 0, false)(s.Put(1, "z"))
	holds(t, "Put(1, z)", s, "3 c, 1 z")
	if !s.Drop(3) || s.Len() != 1 || s.Room() != 2 {
		t.Error("Drop(3), Len, Room")
	}
	holds(t, "Drop(3)", s, "1 z")
	s.Clear()
	holds(t, "Clear", s, "")
}

// P6.1: which rooms may be, and what a new shelf is.
func TestNew(t *testing.T) {
	for _, room := range []int{math.MinInt, math.MinInt32, -4096, -1, 0, mostRoom + 1, 1 << 16, math.MaxInt32, math.MaxInt} {
		if s, e := shelf.New[int, int](room); s != nil || e != api.ErrShelfRoom {
			t.Errorf("New(%d): %v, error %d", room, s, e)
		}
	}
	for _, room := range []int{1, 2, 3, 255, mostRoom - 1, mostRoom} {
		s := made[int, string](t, room)
		if s.Room() != room || s.Len() != 0 {
			t.Errorf("New(%d): room %d, %d things", room, s.Room(), s.Len())
		}
		holds(t, "a new shelf", s, "")
		answers(t, "Get of a new shelf", "", false)(s.Get(0))
		answers(t, "Peek at a new shelf", "", false)(s.Peek(0))
		if s.Drop(0) {
			t.Error("Drop of a new shelf: true")
		}
	}
	if api.ErrShelfRoom != 60 || api.MaxShelf != mostRoom {
		t.Error("the error's number, or the limit")
	}
}

// P6.2: a Get uses the thing, wherever it stands in the order; a Peek does not; what is not there is not used.
func TestGetAndPeek(t *testing.T) {
	behind := []string{
		1: "2 b, 3 c, 4 d, 1 a",
		2: "1 a, 3 c, 4 d, 2 b",
		3: "1 a, 2 b, 4 d, 3 c",
		4: "1 a, 2 b, 3 c, 4 d",
	}
	for k := 1; k <= 4; k++ {
		s := filled(t, 4, 4)
		for range 3 {
			answers(t, "Peek", letter(k), true)(s.Peek(k))
			holds(t, "Peek", s, behind[4])
		}
		for range 3 {
			answers(t, "Get", letter(k), true)(s.Get(k))
			holds(t, "Get", s, behind[k])
		}
	}
	s := filled(t, 4, 3)
	for _, k := range []int{0, 4, -1, math.MinInt, math.MaxInt} {
		answers(t, "Get of none", "", false)(s.Get(k))
		answers(t, "Peek at none", "", false)(s.Peek(k))
		holds(t, "Get and Peek of none", s, "1 a, 2 b, 3 c")
	}
}

// P6.2: a zero thing, or one under a zero key, is there as any other.
func TestZeroThing(t *testing.T) {
	s := made[int, string](t, 2)
	answers(t, "Put", 0, false)(s.Put(0, ""))
	answers(t, "Peek", "", true)(s.Peek(0))
	answers(t, "Get", "", true)(s.Get(0))
	s.Put(1, "a")
	// The key that goes is 0, as beside a false: the true tells them apart.
	answers(t, "Put", 0, true)(s.Put(2, "b"))
	answers(t, "Peek", "", false)(s.Peek(0))
	s.Put(0, "")
	if !s.Drop(0) || s.Drop(0) {
		t.Error("Drop of the zero key")
	}
	holds(t, "Drop", s, "2 b")
}

// P6.3: a Put under a key that is there changes the thing and its place alone, also on a full shelf.
func TestPutOver(t *testing.T) {
	behind := []string{
		1: "2 b, 3 c, 1 z",
		2: "1 a, 3 c, 2 z",
		3: "1 a, 2 b, 3 z",
	}
	for _, room := range []int{3, 4} {
		for k := 1; k <= 3; k++ {
			s := filled(t, room, 3)
			answers(t, "Put over", 0, false)(s.Put(k, "z"))
			holds(t, "Put over", s, behind[k])
			answers(t, "Peek", "z", true)(s.Peek(k))
			answers(t, "Put over again", 0, false)(s.Put(k, letter(k)))
			answers(t, "Get", letter(k), true)(s.Get(k))
		}
	}
}

// P6.3: a shelf fills up to its room, and from then on each new key sends one away.
func TestPutNew(t *testing.T) {
	for _, room := range []int{1, 2, 3, 7, mostRoom} {
		s := made[int, int](t, room)
		for k := range room {
			answers(t, "Put", 0, false)(s.Put(k+1, -k))
			if s.Len() != k+1 {
				t.Fatalf("room %d: %d things behind %d Puts", room, s.Len(), k+1)
			}
		}
		for k := range 2*room + 3 {
			answers(t, "Put on a full shelf", k+1, true)(s.Put(k+room+1, 0))
			answers(t, "Peek at the one that went", 0, false)(s.Peek(k + 1))
			if s.Len() != room || s.Room() != room {
				t.Fatalf("room %d: %d things, room %d", room, s.Len(), s.Room())
			}
		}
	}
}

// P6.3, P6.4: where a thing has been dropped there is room for one, and one that went or was dropped comes back as a new one.
func TestPutAgain(t *testing.T) {
	s := filled(t, 3, 3)
	s.Drop(2)
	answers(t, "Put into the gap", 0, false)(s.Put(4, "d"))
	holds(t, "Put into the gap", s, "1 a, 3 c, 4 d")
	answers(t, "Put of a dropped one", 1, true)(s.Put(2, "y"))
	holds(t, "Put of a dropped one", s, "3 c, 4 d, 2 y")
	answers(t, "Put of one that went", 3, true)(s.Put(1, "x"))
	holds(t, "Put of one that went", s, "4 d, 2 y, 1 x")
}

// P6.4: the others stay in their order, whichever one goes.
func TestDrop(t *testing.T) {
	behind := []string{
		1: "2 b, 3 c, 4 d",
		2: "1 a, 3 c, 4 d",
		3: "1 a, 2 b, 4 d",
		4: "1 a, 2 b, 3 c",
	}
	for k := 1; k <= 4; k++ {
		s := filled(t, 4, 4)
		if !s.Drop(k) {
			t.Errorf("Drop(%d): false", k)
		}
		holds(t, "Drop", s, behind[k])
		if s.Drop(k) {
			t.Errorf("Drop(%d) again: true", k)
		}
		answers(t, "Get of a dropped one", "", false)(s.Get(k))
		answers(t, "Peek at a dropped one", "", false)(s.Peek(k))
		holds(t, "Drop again", s, behind[k])
		if s.Room() != 4 {
			t.Errorf("Room %d", s.Room())
		}
	}
	s := filled(t, 4, 4)
	for _, k := range []int{3, 1, 4, 2} {
		if s.Drop(0) || !s.Drop(k) {
			t.Errorf("Drop(0), Drop(%d)", k)
		}
	}
	holds(t, "Drop of all", s, "")
	s.Put(9, "i")
	holds(t, "Put behind the Drop of all", s, "9 i")
}

// P6.4: behind a Clear a shelf is as new, with its room.
func TestClear(t *testing.T) {
	for things := range 4 {
		s := filled(t, 3, things)
		for range 2 {
			s.Clear()
			holds(t, "Clear", s, "")
			if s.Room() != 3 {
				t.Errorf("Room %d", s.Room())
			}
		}
		for k := 1; k <= 3; k++ {
			answers(t, "Get", "", false)(s.Get(k))
			if s.Drop(k) {
				t.Errorf("Drop(%d) behind a Clear: true", k)
			}
		}
		for k := 1; k <= 3; k++ {
			answers(t, "Put behind a Clear", 0, false)(s.Put(k, letter(k)))
		}
		holds(t, "Put behind a Clear", s, "1 a, 2 b, 3 c")
		answers(t, "Put on a full shelf", 1, true)(s.Put(4, "d"))
	}
}

// P6.5: the room is the one given, the number goes with the things.
func TestRoomAndLen(t *testing.T) {
	s := made[int, string](t, 2)
	asks := func(what string, things int) {
		t.Helper()
		if s.Room() != 2 || s.Len() != things {
			t.Errorf("%s: room %d, %d things, want 2, %d", what, s.Room(), s.Len(), things)
		}
	}
	asks("new", 0)
	s.Put(1, "a")
	asks("Put", 1)
	s.Put(1, "b")
	asks("Put over", 1)
	s.Put(2, "c")
	asks("Put", 2)
	s.Put(3, "d")
	asks("Put on a full shelf", 2)
	s.Get(2)
	s.Peek(3)
	asks("Get, Peek", 2)
	s.Drop(1)
	asks("Drop of none", 2)
	s.Drop(2)
	asks("Drop", 1)
	s.Clear()
	asks("Clear", 0)
}

// P6.7: a nil shelf answers zero values, whatever it is called with, and stays nil.
func TestNil(t *testing.T) {
	var s *shelf.Shelf[int, string]
	for _, k := range []int{0, 1, -1} {
		answers(t, "Get", "", false)(s.Get(k))
		answers(t, "Peek", "", false)(s.Peek(k))
		answers(t, "Put", 0, false)(s.Put(k, "a"))
		if s.Drop(k) {
			t.Errorf("Drop(%d): true", k)
		}
	}
	s.Clear()
	if s.Room() != 0 || s.Len() != 0 {
		t.Errorf("room %d, %d things", s.Room(), s.Len())
	}
	all := s.All()
	if all == nil {
		t.Fatal("All is nil")
	}
	for range 2 {
		for k, v := range all {
			t.Errorf("All goes through %d %s", k, v)
		}
	}
}

// The head of the chapter: keys of any kind that may be compared.
func TestKeys(t *testing.T) {
	type spot struct {
		name string
		at   [2]int
	}
	here, there := new(int), new(int)
	turns(t, "texts", "", "a", "\x00")
	turns(t, "bytes", uint8(0), 255, 7)
	turns(t, "great numbers", uint64(0), math.MaxUint64, 1<<63)
	turns(t, "arrays", [3]int8{}, [3]int8{1}, [3]int8{0, 1})
	turns(t, "structs", spot{}, spot{name: "a"}, spot{at: [2]int{0, 1}})
	turns(t, "pointers", nil, here, there)
	s := made[bool, int](t, 1)
	s.Put(true, 1)
	answers(t, "Put(false)", true, true)(s.Put(false, 2))
	u := made[struct{}, int](t, 1)
	u.Put(struct{}{}, 1)
	answers(t, "Put over the one key", struct{}{}, false)(u.Put(struct{}{}, 2))
	answers(t, "Get of the one key", 2, true)(u.Get(struct{}{}))
}

// turns puts three things under three keys on a shelf for two.
func turns[K comparable](t *testing.T, what string, a, b, c K) {
	t.Helper()
	s := made[K, int](t, 2)
	var zero K
	answers(t, what, zero, false)(s.Put(a, 1))
	answers(t, what, zero, false)(s.Put(b, 2))
	answers(t, what, 1, true)(s.Get(a))
	answers(t, what, b, true)(s.Put(c, 3))
	answers(t, what, 0, false)(s.Peek(b))
	var keys []K
	for k := range s.All() {
		keys = append(keys, k)
	}
	if !slices.Equal(keys, []K{a, c}) {
		t.Errorf("%s: keys %v", what, keys)
	}
}

// The head of the chapter: things are kept as they come, so that a list is the very list that was put.
func TestThingsAsTheyCome(t *testing.T) {
	s := made[string, []int](t, 2)
	list := []int{1, 2, 3}
	s.Put("x", list)
	list[0] = 9
	got, _ := s.Get("x")
	peeked, _ := s.Peek("x")
	for _, l := range [][]int{got, peeked} {
		if !slices.Equal(l, []int{9, 2, 3}) || &l[0] != &list[0] {
			t.Errorf("the list is %v, another one than was put", l)
		}
	}
	for _, l := range s.All() {
		if &l[0] != &list[0] {
			t.Error("All tells another list than was put")
		}
	}
	s.Put("y", nil)
	if l, ok := s.Get("y"); l != nil || !ok {
		t.Errorf("a nil list is %v %v", l, ok)
	}
	f := made[int, func() int](t, 1)
	f.Put(1, func() int { return 42 })
	if call, ok := f.Get(1); !ok || call() != 42 {
		t.Error("a function is not kept")
	}
}
