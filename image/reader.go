package image

import (
	"bulkhead/api"
	"bulkhead/bits"
)

const (
	// mostWords is how many words the greatest memory has.
	mostWords = api.FrameWords * api.MaxFrames

	// mostLocks is how many locks a call takes, at the most.
	mostLocks = 2
)

// reader takes items apart; at the first one that may not be it gives up by a panic with a refusal.
type reader struct {
	*bits.Reader
}

// refusal: what is wrong with the bytes.
type refusal struct{ fault api.Errno }

func newReader(b []byte) reader { return reader{bits.NewReader(b)} }

func (r reader) contents() contents {
	must(r.word() == mark)
	x := contents{
		key:   r.word(),
		words: readList(r.number, mostWords, r.word),
		cores: readList(r.small, api.MaxCores, r.core),
	}
	must(r.End() == api.OK)
	return x
}

// core leaves open whether there is such a mode, or such a state: that is asked of the machine, behind the key.
func (r reader) core() api.CoreState {
	s := api.CoreState{Mode: r.small(), Epoch: r.number(), Window: r.small(), Used: r.number(), Held: r.held()}
	if s.Mode == api.ModeCall {
		r.call(&s)
	}
	return s
}

func (r reader) held() api.Held {
	var h api.Held
	for i := range h.Context.Regs {
		h.Context.Regs[i] = r.word()
	}
	h.Context.PC = r.word()
	for range api.Sets {
		h.Lines = append(h.Lines, readList(r.small, api.Ways, r.number))
	}
	h.Leaves = readList(r.small, api.Leaves, r.leaf)
	return h
}

func (r reader) leaf() api.Leaf {
	return api.Leaf{Page: r.small(), Frame: r.number(), Rights: r.small()}
}

func (r reader) call(s *api.CoreState) {
	s.Act = api.Act{Cost: r.small(), Call: r.small(), PC: r.word(), Word: r.word()}
	s.Chain = readList(r.small, mostLocks, r.number)
	s.Locks = r.small()
	s.Asked = r.truth()
	s.Tickets = readList(r.small, mostLocks, r.word)
	s.Done = r.truth()
	s.Tells = r.truth()
	s.Word = r.word()
}

func (r reader) truth() bool {
	n := r.small()
	must(n <= 1)
	return n == 1
}

func (r reader) small() int { return int(item(r, r.U8())) }

func (r reader) number() int { return int(r.word()) }

func (r reader) word() uint32 { return item(r, r.U32()) }

func readList[T any](many func() int, most int, each func() T) []T {
	n := many()
	must(n >= 0 && n <= most)
	var list []T
	for range n {
		list = append(list, each())
	}
	return list
}

// item hands on what has been read, if it was there.
func item[T any](r reader, told T) T {
	must(r.Fault() == api.OK)
	return told
}

func must(holds bool) {
	if !holds {
		panic(refusal{api.ErrImageForm})
	}
}
