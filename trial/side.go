package trial

import (
	"slices"

	"bulkhead/api"
	"bulkhead/kernel"
)

// side is a play, and the machine on which it is played.
type side struct {
	api.Play
	machine *kernel.Kernel
	told    []api.Feed // all that its devices tell
}

// sideOf makes one at the machine's beginning.
func sideOf(c api.Config, play api.Play) (side, api.Errno) {
	for _, core := range play.Picks {
		if core < 0 || core >= len(c.Cores) {
			return side{}, api.ErrTrialPlay
		}
	}
	k, e := kernel.New(c, play.Programs, play.Feeds)
	if e != api.OK {
		return side{}, api.ErrTrialPlay
	}
	return side{Play: play, machine: k, told: k.Feeds()}, api.OK
}

// gives tells whether a partition is given the same by both sides: its program, and what its device tells it.
func (s side) gives(other side, q int) bool {
	return slices.Equal(s.program(q), other.program(q)) && slices.EqualFunc(s.feeds(q), other.feeds(q), same)
}

// program tells that of a partition.
func (s side) program(q int) []uint32 {
	if q >= len(s.Programs) {
		return nil
	}
	return s.Programs[q]
}

// feeds tells those of a partition, frame by frame.
func (s side) feeds(q int) []api.Feed {
	var out []api.Feed
	for _, f := range s.told {
		if f.Partition == q {
			out = append(out, f)
		}
	}
	return out
}

// same tells whether two feeds say the same.
func same(a, b api.Feed) bool {
	return a.Partition == b.Partition && a.Epoch == b.Epoch && slices.Equal(a.Words, b.Words)
}

// watch plays all picks, and tells what a partition has seen. A machine refuses no step of a core that it has.
func (s side) watch(p int) []api.Seen {
	var out []api.Seen
	for _, core := range s.Picks {
		turn, _ := s.machine.Step(core)
		for _, x := range turn.Seen {
			if x.Partition == p {
				out = append(out, x)
			}
		}
	}
	return out
}
