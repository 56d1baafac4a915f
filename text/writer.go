package text

import (
	"strconv"
	"strings"

	"bulkhead/api"
)

// writer writes lines, and notes what it cannot say: which fault is told hangs on all of a configuration, so none ends the writing.
type writer struct {
	text strings.Builder

	badArg, badName, badNumber bool
}

// fault tells what is wrong with what has been written, the weightiest first.
func (w *writer) fault() api.Errno {
	switch {
	case w.badArg:
		return api.ErrArg
	case w.badName:
		return api.ErrTextName
	case w.badNumber:
		return api.ErrTextNumber
	case w.text.Len() > api.MaxText:
		return api.ErrLong
	}
	return api.OK
}

func (w *writer) config(c api.Config) {
	w.line("memory", w.number(c.Frames))
	w.line("major", w.number(c.Major))
	w.line("kernel", w.number(c.Kernel), w.number(c.Room))
	for _, channel := range c.Channels {
		w.channel(channel)
	}
	for _, p := range c.Partitions {
		w.partition(p)
	}
	for _, windows := range c.Cores {
		w.line("core")
		for _, x := range windows {
			w.line("  window", w.owner(x.Partition), w.number(x.Usable), w.number(x.Slack))
		}
	}
	w.line("end")
}

func (w *writer) channel(c api.Channel) {
	switch c.Kind {
	case api.KindSampling:
		w.badArg = w.badArg || c.Depth != 0
		w.line("channel", "sampling", w.number(c.Words))
	case api.KindQueuing:
		w.line("channel", "queuing", w.number(c.Words), w.number(c.Depth))
	default:
		w.badArg = true
	}
}

func (w *writer) partition(p api.Partition) {
	w.line("partition", w.name(p.Name),
		"entry", w.number(p.Entry),
		"action", w.action(p.Action),
		"restarts", w.number(p.Restarts),
		"inputs", w.number(p.Inputs),
		"outputs", w.number(p.Outputs))
	for _, r := range p.Regions {
		w.line("  region", w.number(r.Page), w.number(r.Pages), w.number(r.Frame), w.rights(r.Rights))
	}
	for _, q := range p.Ports {
		way := "dest"
		if q.Source {
			way = "source"
		}
		w.line("  port", w.number(q.Channel), way)
	}
}

// line writes no more once the text is too long: its room would grow with lists that nobody is ever told.
func (w *writer) line(words ...string) {
	if w.text.Len() > api.MaxText {
		return
	}
	w.text.WriteString(strings.Join(words, " "))
	w.text.WriteByte('\n')
}

func (w *writer) number(n int) string {
	if n < 0 || n > mostNumber {
		w.badNumber = true
		return ""
	}
	return strconv.Itoa(n)
}

func (w *writer) owner(partition int) string {
	switch {
	case partition < nobody:
		w.badArg = true
		return ""
	case partition == nobody:
		return nobodyWord
	}
	return w.number(partition)
}

func (w *writer) action(n int) string {
	if n < 0 || n >= len(actions) {
		w.badArg = true
		return ""
	}
	return actions[n]
}

func (w *writer) rights(n int) string {
	if n < 0 || n > allRights {
		w.badArg = true
		return ""
	}
	return rightsWord(n)
}

func (w *writer) name(s string) string {
	if !isName(s) {
		w.badName = true
		return ""
	}
	return s
}
