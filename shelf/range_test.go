package shelf_test

import (
	"iter"
	"testing"

	"bulkhead/shelf"
)

// P6.6: a range goes through the things as they are when it begins, whatever is called while it goes on.
func TestRangeWhileChanged(t *testing.T) {
	changes := []struct {
		name   string
		change func(s *shelf.Shelf[int, string], k int)
		behind string
	}{
		{"Drop of the one told", func(s *shelf.Shelf[int, string], k int) { s.Drop(k) }, ""},
		{"Drop of the next one", func(s *shelf.Shelf[int, string], k int) { s.Drop(k + 1) }, "1 a"},
		{"Drop of the one before", func(s *shelf.Shelf[int, string], k int) { s.Drop(k - 1) }, "3 c"},
		{"Clear", func(s *shelf.Shelf[int, string], k int) { s.Clear() }, ""},
		{"Clear and Put", func(s *shelf.Shelf[int, string], k int) { s.Clear(); s.Put(9, "i") }, "9 i"},
		{"Put of new ones", func(s *shelf.Shelf[int, string], k int) { s.Put(k+10, "n") }, "11 n, 12 n, 13 n"},
		{"Put over the next one", func(s *shelf.Shelf[int, string], k int) { s.Put(k%3+1, "z") }, "2 z, 3 z, 1 z"},
		{"Get of the first one", func(s *shelf.Shelf[int, string], k int) { s.Get(1) }, "2 b, 3 c, 1 a"},
		{"Get of the one told", func(s *shelf.Shelf[int, string], k int) { s.Get(k) }, "1 a, 2 b, 3 c"},
		{"Get of the next one", func(s *shelf.Shelf[int, string], k int) { s.Get(k%3 + 1) }, "2 b, 3 c, 1 a"},
		{"Peek", func(s *shelf.Shelf[int, string], k int) { s.Peek(1) }, "1 a, 2 b, 3 c"},
	}
	for _, c := range changes {
		s := filled(t, 3, 3)
		told := line(func(yield func(int, string) bool) {
			for k, v := range s.All() {
				c.change(s, k)
				if !yield(k, v) {
					return
				}
			}
		})
		if told != "1 a, 2 b, 3 c" {
			t.Errorf("%s: the range goes through %q", c.name, told)
		}
		holds(t, c.name, s, c.behind)
	}
}

// P6.6: a range begins when it is begun, not when All is called.
func TestRangeBegins(t *testing.T) {
	s := made[int, string](t, 3)
	all := s.All()
	s.Put(1, "a")
	s.Put(2, "b")
	if got := line(all); got != "1 a, 2 b" {
		t.Errorf("Put behind All: %q", got)
	}
	s.Get(1)
	s.Put(3, "c")
	if got := line(all); got != "2 b, 1 a, 3 c" {
		t.Errorf("ranged over again: %q", got)
	}
	s.Clear()
	if got := line(all); got != "" {
		t.Errorf("ranged over behind a Clear: %q", got)
	}
	s.Put(4, "d")
	if got := line(all); got != "4 d" {
		t.Errorf("ranged over behind a Clear and a Put: %q", got)
	}
}

// P6.6: as far as it is asked: what ends a range early is asked no more, and changes nothing.
func TestRangeEndsEarly(t *testing.T) {
	s := filled(t, 5, 5)
	for most := 1; most <= 6; most++ {
		asked := 0
		s.All()(func(k int, v string) bool {
			asked++
			if k != asked || v != letter(k) {
				t.Errorf("the %d-th is %d %s", asked, k, v)
			}
			return asked < most
		})
		if asked != min(most, 5) {
			t.Errorf("asked for %d, told %d", most, asked)
		}
		holds(t, "a range that ends early", s, "1 a, 2 b, 3 c, 4 d, 5 e")
	}
}

// P6.6: within itself, each range begins anew: also with a change in between.
func TestRangeWithinItself(t *testing.T) {
	s := filled(t, 3, 3)
	all := s.All()
	var inner []string
	outer := line(func(yield func(int, string) bool) {
		for k, v := range all {
			s.Get(k)
			s.Put(k, v+v)
			inner = append(inner, line(all))
			if !yield(k, v) {
				return
			}
		}
	})
	if outer != "1 a, 2 b, 3 c" {
		t.Errorf("the outer range: %q", outer)
	}
	want := []string{"2 b, 3 c, 1 aa", "3 c, 1 aa, 2 bb", "1 aa, 2 bb, 3 cc"}
	for i, w := range want {
		if inner[i] != w {
			t.Errorf("the range within the %d-th turn: %q, want %q", i, inner[i], w)
		}
	}
}

// P6.6: two ranges that go on by turns, one begun behind a change, tell each what was there at its beginning.
func TestRangesByTurns(t *testing.T) {
	s := filled(t, 3, 3)
	all := s.All()
	next, stop := iter.Pull2(all)
	defer stop()
	k, v, ok := next()
	if k != 1 || v != "a" || !ok {
		t.Fatalf("the first one is %d %s %v", k, v, ok)
	}
	s.Put(4, "d")
	later, end := iter.Pull2(all)
	defer end()
	for i := 2; i <= 4; i++ {
		if k, v, ok := later(); k != i || v != letter(i) || !ok {
			t.Errorf("the later range: %d %s %v, want %d", k, v, ok, i)
		}
		s.Drop(i)
		if k, v, ok := next(); i < 4 && (k != i || v != letter(i)) || ok != (i < 4) {
			t.Errorf("the first range: %d %s %v, want %d", k, v, ok, i)
		}
	}
	if _, _, ok := later(); ok {
		t.Error("the later range goes on")
	}
	holds(t, "two ranges", s, "")
}

// P6.6: nothing is used by a range: the one that goes behind it is the one that would have gone.
func TestRangeUsesNothing(t *testing.T) {
	s := filled(t, 3, 3)
	s.Get(1)
	for range s.All() {
	}
	for range s.All() {
		break
	}
	answers(t, "Put", 2, true)(s.Put(4, "d"))
	holds(t, "Put", s, "3 c, 1 a, 4 d")
}

// P6.6: a range whose body panics leaves the shelf as it was.
func TestRangePanics(t *testing.T) {
	s := filled(t, 3, 3)
	func() {
		defer func() {
			if recover() != "enough" {
				t.Error("the panic is another one")
			}
		}()
		for k := range s.All() {
			if k == 2 {
				panic("enough")
			}
		}
	}()
	holds(t, "a panic in the range", s, "1 a, 2 b, 3 c")
	answers(t, "Put", 1, true)(s.Put(4, "d"))
}
