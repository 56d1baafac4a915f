package lock

import (
	"slices"

	"bulkhead/api"
	"bulkhead/mem"
)

// stage says what a chain's next Step does.
type stage int

const (
	whole   stage = iota // nothing: it has all its locks
	asking               // it takes a ticket of the next lock
	waiting              // it looks whether its last ticket's turn has come
)

// Chain takes several locks one behind the other, and gives them back.
type Chain struct {
	locks   []int
	tickets []uint32 // those of the first locks, which it has; while it waits, the last one is of the lock that it has not
	stage   stage
}

// New makes a chain that has taken none.
func New(locks ...int) *Chain {
	c := &Chain{locks: slices.Clone(locks)}
	c.stage = c.settled()
	return c
}

// Step does the next thing towards having all; whether anything was done.
func (c *Chain) Step(m *mem.Memory) (bool, api.Errno) {
	if c == nil || m == nil {
		return false, api.ErrNil
	}
	switch c.stage {
	case asking:
		return c.ask(m)
	case waiting:
		return c.look(m)
	}
	return false, api.OK
}

// All tells whether it has all.
func (c *Chain) All() bool { return c != nil && c.stage == whole }

// Back gives the last one that it has back; whether it has none any more.
func (c *Chain) Back(m *mem.Memory) (bool, api.Errno) {
	if c == nil || m == nil {
		return false, api.ErrNil
	}
	if c.stage == waiting {
		return false, api.ErrLockOrder
	}
	if len(c.tickets) == 0 {
		return true, api.OK
	}
	last := len(c.tickets) - 1
	if e := Free(m, c.locks[last], c.tickets[last]); e != api.OK {
		return false, e
	}
	c.tickets = c.tickets[:last]
	c.stage = asking
	return last == 0, api.OK
}

// State tells how far it is, Restore makes a chain that is as far.
func (c *Chain) State() (held int, asked bool, tickets []uint32) {
	if c == nil {
		return 0, false, nil
	}
	held, asked = len(c.tickets), c.stage == waiting
	if asked {
		held--
	}
	return held, asked, slices.Clone(c.tickets)
}

func Restore(locks []int, held int, asked bool, tickets []uint32) (*Chain, api.Errno) {
	if !canBe(len(locks), held, asked, len(tickets)) {
		return nil, api.ErrArg
	}
	c := &Chain{locks: slices.Clone(locks), tickets: slices.Clone(tickets), stage: waiting}
	if !asked {
		c.stage = c.settled()
	}
	return c, api.OK
}

// canBe tells whether a chain of so many locks can be so far, with so many tickets.
func canBe(locks, held int, asked bool, tickets int) bool {
	if held < 0 || held > locks {
		return false
	}
	if asked {
		return held < locks && tickets == held+1
	}
	return tickets == held
}

// ask takes a ticket of the next lock.
func (c *Chain) ask(m *mem.Memory) (bool, api.Errno) {
	ticket, e := Take(m, c.locks[len(c.tickets)])
	if e != api.OK {
		return false, e
	}
	c.tickets = append(c.tickets, ticket)
	c.stage = waiting
	return true, api.OK
}

// look has the lock that it waits for, if its ticket's turn has come.
func (c *Chain) look(m *mem.Memory) (bool, api.Errno) {
	last := len(c.tickets) - 1
	mine, e := Mine(m, c.locks[last], c.tickets[last])
	if e != api.OK || !mine {
		return false, e
	}
	c.stage = c.settled()
	return true, api.OK
}

// settled tells the stage of a chain that has a lock for each of its tickets.
func (c *Chain) settled() stage {
	if len(c.tickets) == len(c.locks) {
		return whole
	}
	return asking
}
