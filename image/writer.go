package image

import (
	"bulkhead/api"
	"bulkhead/bits"
	"bulkhead/conf"
	"bulkhead/kernel"
)

// writer lays items down. No number is too great for its bytes: a machine that runs has no such.
type writer struct {
	*bits.Writer
}

func newWriter() writer { return writer{bits.NewWriter()} }

// keyOf asks the machine, not its makers, for programs and feeds: it tells feeds in one order, and those alone that have words.
func keyOf(k *kernel.Kernel) uint32 {
	c, programs := k.Config(), k.Programs()
	form, _ := conf.Encode(c) // what holds together has one
	w := newWriter()
	w.Text(string(form))
	for p := range c.Partitions {
		var program []uint32
		if p < len(programs) {
			program = programs[p]
		}
		writeList(w.number, program, w.U32)
	}
	writeList(w.number, k.Feeds(), w.feed)
	return bits.Sum(w.Out())
}

func (w writer) feed(f api.Feed) {
	w.small(f.Partition)
	w.number(f.Epoch)
	writeList(w.small, f.Words, w.U32)
}

func (w writer) contents(x contents) {
	w.U32(mark)
	w.U32(x.key)
	writeList(w.number, x.words, w.U32)
	writeList(w.small, x.cores, w.core)
}

func (w writer) core(s api.CoreState) {
	w.small(s.Mode)
	w.number(s.Epoch)
	w.small(s.Window)
	w.number(s.Used)
	w.held(s.Held)
	if s.Mode == api.ModeCall {
		w.call(s)
	}
}

func (w writer) held(h api.Held) {
	for _, r := range h.Context.Regs {
		w.U32(r)
	}
	w.U32(h.Context.PC)
	for _, set := range h.Lines {
		writeList(w.small, set, w.number)
	}
	writeList(w.small, h.Leaves, w.leaf)
}

func (w writer) leaf(l api.Leaf) {
	w.small(l.Page)
	w.number(l.Frame)
	w.small(l.Rights)
}

func (w writer) call(s api.CoreState) {
	w.small(s.Act.Cost)
	w.small(s.Act.Call)
	w.U32(s.Act.PC)
	w.U32(s.Act.Word)
	writeList(w.small, s.Chain, w.number)
	w.small(s.Locks)
	w.truth(s.Asked)
	writeList(w.small, s.Tickets, w.U32)
	w.truth(s.Done)
	w.truth(s.Tells)
	w.U32(s.Word)
}

func (w writer) truth(is bool) {
	if is {
		w.U8(1)
	} else {
		w.U8(0)
	}
}

func (w writer) small(n int) { w.U8(uint8(n)) }

func (w writer) number(n int) { w.U32(uint32(n)) }

func writeList[T any](many func(int), list []T, each func(T)) {
	many(len(list))
	for _, x := range list {
		each(x)
	}
}
