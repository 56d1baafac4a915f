package trial

import (
	"sync"

	"bulkhead/api"
	"bulkhead/flow"
)

// duel is two plays of a configuration, and a partition that looks at both. It ends with the call that it is made for, so it may lean on what was handed in there.
type duel struct {
	p     int
	into  []int // p, and the partitions that have a way to it
	sides [2]side
}

// duelOf makes one whose machines stand at their beginning.
func duelOf(c api.Config, p int, plays [2]api.Play) (*duel, api.Errno) {
	for _, play := range plays {
		if len(play.Picks) > api.MaxPicks {
			return nil, api.ErrLong
		}
	}
	d := &duel{p: p}
	for i, play := range plays {
		s, e := sideOf(c, play)
		if e != api.OK {
			return nil, e
		}
		d.sides[i] = s
	}
	into, e := flow.Into(c, p)
	if e != api.OK {
		return nil, e
	}
	d.into = into
	return d, api.OK
}

// alike tells whether p may not tell one play from the other.
func (d *duel) alike() bool {
	one, another := d.sides[0], d.sides[1]
	for _, q := range d.into {
		if !one.gives(another, q) {
			return false
		}
	}
	return true
}

// play plays both side by side, and tells what p has seen in each.
func (d *duel) play() [2][]api.Seen {
	var seen [2][]api.Seen
	var joined sync.WaitGroup
	for i, s := range d.sides {
		joined.Add(1)
		go func() {
			defer joined.Done()
			seen[i] = s.watch(d.p)
		}()
	}
	joined.Wait()
	return seen
}
