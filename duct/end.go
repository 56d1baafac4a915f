package duct

import "bulkhead/api"

// end is a port: its channel, where that one's lock lies, and, of a destination, where its own words lie.
type end struct {
	channel, lock int
	line          line
	source        bool
	at            int
}

// endsOf tells the ends of all channels, by partition, then port.
func endsOf(c api.Config, l api.Layout, lines []line) [][]end {
	out := make([][]end, len(c.Partitions))
	for p, partition := range c.Partitions {
		for _, port := range partition.Ports {
			n := port.Channel
			out[p] = append(out[p], end{channel: n, lock: l.Channels[n].Lock, line: lines[n], source: port.Source})
		}
	}
	for _, lies := range l.Channels {
		for _, dest := range lies.Dests {
			out[dest.Partition][dest.Port].at = dest.At
		}
	}
	return out
}

// find tells a partition's port; false: there is no such port.
func (d *Ducts) find(p, port int) (end, bool) {
	if d == nil || p < 0 || p >= len(d.ends) || port < 0 || port >= len(d.ends[p]) {
		return end{}, false
	}
	return d.ends[p][port], true
}

// source tells a partition's port that may send, and what is told of one that may not.
func (d *Ducts) source(p, port int) (end, int) {
	asked, there := d.find(p, port)
	if !there {
		return end{}, api.ToldPort
	}
	if !asked.source {
		return end{}, api.ToldWay
	}
	return asked, api.ToldOK
}
