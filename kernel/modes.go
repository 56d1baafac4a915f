package kernel

import (
	"bulkhead/api"
	"bulkhead/barrier"
	"bulkhead/boot"
	"bulkhead/lock"
)

// deed is what a step of a core does in one mode; what it was, and what it tells, is laid into the turn, which is one of TurnBlocked at first.
type deed func(*Kernel, *unit, *api.Turn) api.Errno

// deedOf tells it by the mode.
func deedOf(mode int) deed {
	switch mode {
	case api.ModeRun:
		return (*Kernel).run
	case api.ModeCall:
		return (*Kernel).call
	case api.ModeArrive:
		return (*Kernel).arrive
	case api.ModeWait:
		return (*Kernel).wait
	default:
		return (*Kernel).stay
	}
}

// step lets a core do one. The layers below refuse nothing of a state that may be, and each step leaves one that may be.
func (k *Kernel) step(u *unit) (api.Turn, api.Errno) {
	t := api.Turn{Core: u.number}
	if e := deedOf(u.mode)(k, u, &t); e != api.OK {
		return api.Turn{}, e
	}
	return t, api.OK
}

func (k *Kernel) run(u *unit, t *api.Turn) api.Errno {
	may, e := k.mayRun(u)
	if e != api.OK {
		return e
	}
	if !may {
		return k.change(u, t)
	}
	return k.instruct(u, t)
}

// mayRun tells whether an instruction may begin.
func (k *Kernel) mayRun(u *unit) (bool, api.Errno) {
	w := u.windows[u.window]
	if w.Partition == nobody || u.used >= w.Usable {
		return false, api.OK
	}
	s, e := k.wards.Status(k.m, w.Partition)
	return s.State == api.StateReady, e
}

// change ends a window, and goes on to the next one or to the frame's end.
func (k *Kernel) change(u *unit, t *api.Turn) api.Errno {
	t.Kind = api.TurnSwitch
	if p := u.partition(); p != nobody {
		if e := k.wards.Save(k.m, p, u.core.Context()); e != api.OK {
			return e
		}
	}
	u.wipe()
	next := u.window + 1
	if next == len(u.windows) {
		u.mode, u.window, u.used = api.ModeArrive, 0, 0
		return api.OK
	}
	events, e := k.load(u, next)
	t.Events = events
	return e
}

// load lets a window of the core's begin, and tells what has become of its partition by that. The core holds nothing as yet.
func (k *Kernel) load(u *unit, window int) ([]api.Event, api.Errno) {
	u.mode, u.window, u.used = api.ModeRun, window, 0
	p := u.partition()
	if p == nobody {
		return nil, api.OK
	}
	x, action, e := k.wards.Load(k.m, p)
	if e != api.OK {
		return nil, e
	}
	u.core.Set(x)
	switch action {
	case api.ActionWarm:
		return []api.Event{u.event(api.EventWarm, u.begin(), api.TrapNone)}, api.OK
	case api.ActionCold:
		return []api.Event{u.event(api.EventCold, u.begin(), api.TrapNone)}, k.anew(p)
	}
	return nil, api.OK
}

// anew lays a partition's memory as at the beginning.
func (k *Kernel) anew(p int) api.Errno {
	var program []uint32
	if p < len(k.programs) {
		program = k.programs[p]
	}
	return boot.Anew(k.m, api.Config(k.config), p, program)
}

// instruct carries one instruction out; of a call only what the core itself does.
func (k *Kernel) instruct(u *unit, t *api.Turn) api.Errno {
	t.Kind = api.TurnRun
	p := u.partition()
	act, e := u.core.Step(k.m, k.lies.Partitions[p].Root, k.clock(u))
	if e != api.OK {
		return e
	}
	u.used += act.Cost
	if act.Call >= api.CallYield {
		return k.start(u, act)
	}
	t.Seen = []api.Seen{u.saw(act)}
	if act.Trap == api.TrapNone {
		return api.OK
	}
	halted, e := k.wards.Trap(k.m, p, act.Trap, act.PC)
	t.Events = []api.Event{u.event(api.EventTrap, u.cycle(), act.Trap)}
	if halted {
		t.Events = append(t.Events, u.event(api.EventHalt, u.cycle(), act.Trap))
	}
	return e
}

// clock tells the cycle counter, reckoned in words, as it is told modulo 2^32.
func (k *Kernel) clock(u *unit) uint32 {
	return uint32(u.epoch)*uint32(k.Major) + uint32(u.cycle())
}

// start begins a call, which holds no lock as yet.
func (k *Kernel) start(u *unit, act api.Act) api.Errno {
	locks, e := k.calls.Locks(u.partition(), act.Call, u.core.Context())
	if e != api.OK {
		return e
	}
	u.mode = api.ModeCall
	u.errand = errand{act: act, locks: locks, chain: lock.New(locks...)}
	return api.OK
}

func (k *Kernel) call(u *unit, t *api.Turn) api.Errno {
	if u.errand.done {
		return k.giveBack(u, t)
	}
	if u.errand.chain.All() {
		return k.carryOut(u, t)
	}
	did, e := u.errand.chain.Step(k.m)
	if did {
		t.Kind = api.TurnCall
	}
	return e
}

// carryOut does what the call asks for.
func (k *Kernel) carryOut(u *unit, t *api.Turn) api.Errno {
	t.Kind = api.TurnCall
	x, word, tells, e := k.calls.Do(k.m, u.partition(), u.epoch, u.errand.act.Call, u.core.Context())
	if e != api.OK {
		return e
	}
	u.core.Set(x)
	u.errand.done, u.errand.tells, u.errand.word = true, tells, word
	return api.OK
}

// giveBack gives the last lock back; with the last one of all the call is over, and is told.
func (k *Kernel) giveBack(u *unit, t *api.Turn) api.Errno {
	t.Kind = api.TurnCall
	none, e := u.errand.chain.Back(k.m)
	if e != api.OK || !none {
		return e
	}
	t.Seen = []api.Seen{u.saw(u.errand.act)}
	if u.errand.tells {
		t.Outs = []api.Out{{Partition: u.partition(), Epoch: u.epoch, Word: u.errand.word}}
	}
	if u.errand.act.Call == api.CallStop {
		t.Events = []api.Event{u.event(api.EventStop, u.cycle(), api.TrapNone)}
	}
	u.mode, u.errand = api.ModeRun, errand{}
	return api.OK
}

func (k *Kernel) arrive(u *unit, t *api.Turn) api.Errno {
	t.Kind = api.TurnArrive
	last, e := barrier.Come(k.m, k.lies.Barrier, len(k.units))
	if e != api.OK {
		return e
	}
	u.mode = api.ModeWait
	if !last {
		return api.OK
	}
	t.Events = []api.Event{{Kind: api.EventEpoch, Partition: nobody, Epoch: u.epoch + 1}}
	if e := k.calls.Turn(k.m); e != api.OK {
		return e
	}
	return barrier.Open(k.m, k.lies.Barrier, len(k.units))
}

func (k *Kernel) wait(u *unit, t *api.Turn) api.Errno {
	v, e := barrier.Look(k.m, k.lies.Barrier)
	if e != api.OK || v.Epoch == u.epoch {
		return e
	}
	t.Kind = api.TurnLeave
	u.epoch++
	if u.epoch == api.MaxEpoch {
		u.mode = api.ModeEnd
		return api.OK
	}
	if e := k.calls.Begin(k.m, u.partitions()); e != api.OK {
		return e
	}
	t.Events, e = k.load(u, 0)
	return e
}

// stay is all that is left at the end.
func (k *Kernel) stay(u *unit, t *api.Turn) api.Errno { return api.OK }
