package bits

// store is what a writer and a reader have in common: bytes of their own, and the place at which the next item begins.
type store struct {
	held  []byte
	place int
}

// size tells how many bytes there are.
func (s *store) size() int { return len(s.held) }

// at tells where it stands.
func (s *store) at() int { return s.place }

// left tells how many bytes stand from the place on.
func (s *store) left() int { return s.size() - s.at() }

// next tells the n bytes from the place on, as they lie in the store, and goes on behind them; as many must be left.
func (s *store) next(n int) []byte {
	from := s.place
	s.place += n
	return s.held[from:s.place]
}
