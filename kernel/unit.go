package kernel

import (
	"slices"

	"bulkhead/api"
	"bulkhead/core"
	"bulkhead/lock"
	"bulkhead/plan"
)

// nobody has the windows that are no partition's.
const nobody = -1

// unit is one core of the machine: its plan, and how far it is.
type unit struct {
	number  int
	windows []api.Window
	starts  []int // when each of them begins
	core    *core.Core

	epoch, mode, window, used int
	errand                    errand
}

// errand is a call under way; all zero in other modes than call.
type errand struct {
	act         api.Act
	locks       []int // those of the chain, which tells them nobody
	chain       *lock.Chain
	done, tells bool
	word        uint32
}

// unitsOf makes those of all cores of a configuration, which stand nowhere yet.
func unitsOf(c api.Config) ([]*unit, api.Errno) {
	units := make([]*unit, len(c.Cores))
	for i, windows := range c.Cores {
		starts, e := plan.Starts(c, i)
		if e != api.OK {
			return nil, e
		}
		units[i] = &unit{number: i, windows: windows, starts: starts, core: core.New()}
	}
	return units, api.OK
}

// partition tells whose window it stands in: nobody's, where it stands in none.
func (u *unit) partition() int {
	if u.mode != api.ModeRun && u.mode != api.ModeCall {
		return nobody
	}
	return u.windows[u.window].Partition
}

// partitions tells all that have windows on it.
func (u *unit) partitions() []int {
	var out []int
	for _, w := range u.windows {
		if w.Partition != nobody && !slices.Contains(out, w.Partition) {
			out = append(out, w.Partition)
		}
	}
	return out
}

// begin tells the time at which its window begins, cycle the time at which it stands.
func (u *unit) begin() int { return u.starts[u.window] }

func (u *unit) cycle() int { return u.begin() + u.used }

// wipe makes it hold nothing.
func (u *unit) wipe() {
	u.core.Set(api.Context{})
	u.core.Flush()
}

// saw tells what its partition has seen of an instruction that is over.
func (u *unit) saw(act api.Act) api.Seen {
	return api.Seen{
		Partition: u.partition(), Epoch: u.epoch, Cycle: u.cycle(),
		PC: act.PC, Word: act.Word, Trap: act.Trap,
		Read: act.Read, Addr: act.Addr, Value: act.Value,
		After: u.core.Context(),
	}
}

// event tells what has become of its partition at a time of this frame.
func (u *unit) event(kind, cycle, trap int) api.Event {
	return api.Event{Kind: kind, Partition: u.partition(), Epoch: u.epoch, Cycle: cycle, Trap: trap}
}

// view tells how it stands.
func (u *unit) view() api.CoreView {
	return api.CoreView{
		Epoch: u.epoch, Window: u.window, Used: u.used, Mode: u.mode,
		Partition: u.partition(), Context: u.core.Context(),
	}
}

// state tells all that it keeps, restore makes it keep such, which may be.
func (u *unit) state() api.CoreState {
	s := api.CoreState{
		Epoch: u.epoch, Window: u.window, Used: u.used, Mode: u.mode,
		Held: u.core.Held(), Act: u.errand.act, Chain: slices.Clone(u.errand.locks),
		Done: u.errand.done, Tells: u.errand.tells, Word: u.errand.word,
	}
	s.Locks, s.Asked, s.Tickets = u.errand.chain.State()
	return s
}

func (u *unit) restore(s api.CoreState) api.Errno {
	if e := u.core.Restore(s.Held); e != api.OK {
		return e
	}
	u.epoch, u.mode, u.window, u.used = s.Epoch, s.Mode, s.Window, s.Used
	if u.mode != api.ModeCall {
		return api.OK
	}
	chain, e := lock.Restore(s.Chain, s.Locks, s.Asked, s.Tickets)
	u.errand = errand{act: s.Act, locks: slices.Clone(s.Chain), chain: chain, done: s.Done, tells: s.Tells, word: s.Word}
	return e
}
