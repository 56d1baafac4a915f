package solo

import (
	"bulkhead/api"
	"bulkhead/core"
)

// window is one of a partition's in one frame. Its core is a new one, as a window begins with a core that holds nothing.
type window struct {
	*machine
	p, epoch, from, usable int
	used                   int
	core                   *core.Core
	tell                   notes
}

// window lets one come, of which nothing is played yet.
func (m *machine) window(p, epoch int, s api.Span, trace *api.Trace) *window {
	return &window{
		machine: m, p: p, epoch: epoch, from: s.From,
		usable: m.config.Cores[s.Core][s.Window].Usable,
		core:   core.New(), tell: notesOn(trace, p, epoch),
	}
}

// play plays it from its loading up to its end.
func (w *window) play() api.Errno {
	if e := w.load(); e != api.OK {
		return e
	}
	for {
		may, e := w.mayRun()
		if e != api.OK {
			return e
		}
		if !may {
			return w.wards.Save(w.memory, w.p, w.core.Context())
		}
		if e := w.instruct(); e != api.OK {
			return e
		}
	}
}

// load gives the core its context, and begins a partition anew that has to be.
func (w *window) load() api.Errno {
	x, action, e := w.wards.Load(w.memory, w.p)
	if e != api.OK {
		return e
	}
	w.core.Set(x)
	switch action {
	case api.ActionWarm:
		w.tell.event(api.EventWarm, w.cycle(), api.TrapNone)
	case api.ActionCold:
		w.tell.event(api.EventCold, w.cycle(), api.TrapNone)
		return w.anew(w.p)
	}
	return api.OK
}

// mayRun tells whether an instruction may begin.
func (w *window) mayRun() (bool, api.Errno) {
	if w.used >= w.usable {
		return false, api.OK
	}
	s, e := w.wards.Status(w.memory, w.p)
	return s.State == api.StateReady, e
}

// cycle tells the time of the frame.
func (w *window) cycle() int { return w.from + w.used }

// clock tells the cycle counter, reckoned in words, as it is told modulo 2^32.
func (w *window) clock() uint32 {
	return uint32(w.epoch)*uint32(w.config.Major) + uint32(w.cycle())
}

// instruct carries one instruction out, with all that comes of it.
func (w *window) instruct() api.Errno {
	act, e := w.core.Step(w.memory, w.lies.Partitions[w.p].Root, w.clock())
	if e != api.OK {
		return e
	}
	w.used += act.Cost
	switch {
	case act.Call >= api.CallYield:
		e = w.call(act.Call)
	case act.Trap != api.TrapNone:
		e = w.trap(act)
	}
	w.tell.seen(w.cycle(), act, w.core.Context())
	return e
}

// call carries a call out.
func (w *window) call(call int) api.Errno {
	x, word, tells, e := w.calls.Do(w.memory, w.p, w.epoch, call, w.core.Context())
	if e != api.OK {
		return e
	}
	w.core.Set(x)
	if tells {
		w.tell.out(word)
	}
	if call == api.CallStop {
		w.tell.event(api.EventStop, w.cycle(), api.TrapNone)
	}
	return api.OK
}

// trap notes one.
func (w *window) trap(act api.Act) api.Errno {
	halted, e := w.wards.Trap(w.memory, w.p, act.Trap, act.PC)
	if e != api.OK {
		return e
	}
	w.tell.event(api.EventTrap, w.cycle(), act.Trap)
	if halted {
		w.tell.event(api.EventHalt, w.cycle(), act.Trap)
	}
	return api.OK
}
