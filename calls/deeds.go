package calls

import (
	"bulkhead/api"
	"bulkhead/mem"
)

// request is what a partition asks for: the registers stand as they are, so that no great number passes for a small one.
type request struct {
	m               *mem.Memory
	p, epoch        int
	one, two, three uint32
}

// reply is what it is told, in the registers and, where out is true, beside them.
type reply struct {
	one        int
	two, three uint32
	word       uint32
	out        bool
}

// deed is what one call does.
type deed func(*Calls, request) (reply, api.Errno)

// deeds tells them by the calls' numbers.
func deeds() [api.CallEnd]deed {
	return [api.CallEnd]deed{
		api.CallYield:   (*Calls).yield,
		api.CallSend:    (*Calls).send,
		api.CallReceive: (*Calls).receive,
		api.CallStatus:  (*Calls).status,
		api.CallInput:   (*Calls).input,
		api.CallOutput:  (*Calls).output,
		api.CallWho:     (*Calls).who,
		api.CallStop:    (*Calls).stop,
	}
}

func (s *Calls) yield(r request) (reply, api.Errno) {
	return reply{}, s.wards.Yield(r.m, r.p)
}

func (s *Calls) send(r request) (reply, api.Errno) {
	room, told := s.ducts.Room(r.p, int(r.one))
	if told != api.ToldOK {
		return reply{one: told}, api.OK
	}
	if r.three == 0 || r.three > uint32(room) {
		return reply{one: api.ToldLong}, api.OK
	}
	places, may := s.places(r, int(r.three), api.RightRead)
	if !may {
		return reply{one: api.ToldFault}, api.OK
	}
	message, e := read(r.m, places)
	if e != api.OK {
		return reply{}, e
	}
	told, e = s.ducts.Send(r.m, r.p, int(r.one), message)
	return reply{one: told}, e
}

func (s *Calls) receive(r request) (reply, api.Errno) {
	told, message, beside, e := s.ducts.Look(r.m, r.p, int(r.one))
	if e != api.OK || told != api.ToldOK {
		return reply{one: told}, e
	}
	// All places are asked for ahead of the first write: who is told ToldFault has changed nothing.
	places, may := s.places(r, len(message), api.RightWrite)
	if !may {
		return reply{one: api.ToldFault}, api.OK
	}
	if e := s.ducts.Took(r.m, r.p, int(r.one)); e != api.OK {
		return reply{}, e
	}
	if e := write(r.m, places, message); e != api.OK {
		return reply{}, e
	}
	return reply{two: uint32(len(message)), three: beside}, api.OK
}

func (s *Calls) status(r request) (reply, api.Errno) {
	told, two, three, e := s.ducts.Status(r.m, r.p, int(r.one))
	return reply{one: told, two: two, three: three}, e
}

func (s *Calls) input(r request) (reply, api.Errno) {
	told, word := s.devs.Input(r.p, r.epoch, r.one)
	return reply{one: told, two: word}, api.OK
}

func (s *Calls) output(r request) (reply, api.Errno) {
	told, e := s.devs.Output(r.m, r.p)
	if e != api.OK || told != api.ToldOK {
		return reply{one: told}, e
	}
	return reply{word: r.one, out: true}, api.OK
}

func (s *Calls) who(r request) (reply, api.Errno) {
	return reply{two: uint32(r.p), three: uint32(r.epoch)}, api.OK
}

func (s *Calls) stop(r request) (reply, api.Errno) {
	return reply{}, s.wards.Stop(r.m, r.p)
}
