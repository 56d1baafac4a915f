package conf

import (
	"math"

	"bulkhead/api"
	"bulkhead/bits"
)

// writer lays items down; wide, if there was one that the bytes do not hold.
type writer struct {
	*bits.Writer
	wide bool
}

func newWriter() *writer { return &writer{Writer: bits.NewWriter()} }

func (w *writer) config(c api.Config) {
	w.numbers(c.Frames, c.Major, c.Kernel, c.Room)
	writeList(w, c.Cores, (*writer).core)
	writeList(w, c.Partitions, (*writer).partition)
	writeList(w, c.Channels, (*writer).channel)
}

func (w *writer) core(windows []api.Window) {
	writeList(w, windows, (*writer).window)
}

// window lays nobody's -1 down as 0: the bytes have no numbers below 0.
func (w *writer) window(x api.Window) {
	w.numbers(x.Partition+1, x.Usable, x.Slack)
}

func (w *writer) partition(p api.Partition) {
	w.name(p.Name)
	w.numbers(p.Entry, p.Action, p.Restarts, p.Inputs, p.Outputs)
	writeList(w, p.Regions, (*writer).region)
	writeList(w, p.Ports, (*writer).port)
}

func (w *writer) region(r api.Region) {
	w.numbers(r.Page, r.Pages, r.Frame, r.Rights)
}

func (w *writer) port(p api.Port) {
	w.numbers(p.Channel)
	if p.Source {
		w.U8(1)
	} else {
		w.U8(0)
	}
}

func (w *writer) channel(c api.Channel) {
	w.numbers(c.Kind, c.Words, c.Depth)
}

// writeList leaves the elements out of what is wide anyway: there may be very many of them.
func writeList[T any](w *writer, elements []T, each func(*writer, T)) {
	if len(elements) > mostElements {
		w.wide = true
		return
	}
	w.U8(uint8(len(elements)))
	for _, x := range elements {
		each(w, x)
	}
}

func (w *writer) numbers(list ...int) {
	for _, n := range list {
		if n < 0 || int64(n) > math.MaxUint32 {
			w.wide = true
		}
		w.U32(uint32(n))
	}
}

func (w *writer) name(s string) {
	if len(s) > mostName {
		w.wide = true
		return
	}
	w.Text(s)
}

func (w *writer) sum() {
	w.U32(bits.Sum(w.Out()))
}
