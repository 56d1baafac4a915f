package layout

import "bulkhead/api"

// canLie tells whether a configuration can be laid out. How many there are is asked first, so that what is gone through is short.
func canLie(c api.Config) bool {
	if c.Kernel < 0 || c.Kernel >= api.MaxFrames {
		return false
	}
	if len(c.Partitions) > api.MaxPartitions || len(c.Channels) > api.MaxChannels {
		return false
	}
	for _, p := range c.Partitions {
		if !partitionCanLie(p, len(c.Channels)) {
			return false
		}
	}
	for n, h := range c.Channels {
		if !shape(h).whole() || !isJoined(c, n) {
			return false
		}
	}
	return true
}

// partitionCanLie tells whether a partition can be laid out beside so many channels.
func partitionCanLie(p api.Partition, channels int) bool {
	if len(p.Regions) > api.MaxRegions || len(p.Ports) > api.MaxPorts {
		return false
	}
	for _, r := range p.Regions {
		if !inSpace(r) {
			return false
		}
	}
	for _, port := range p.Ports {
		if port.Channel < 0 || port.Channel >= channels {
			return false
		}
	}
	return true
}

// inSpace tells whether a region's pages are pages of the space. They are held against what is left of it, for a sum could come round.
func inSpace(r api.Region) bool {
	return r.Page >= 0 && r.Pages >= 1 && r.Pages <= api.Pages && r.Page <= api.Pages-r.Pages
}

// isJoined tells whether a channel has just one source, and as many destinations as it may have.
func isJoined(c api.Config, channel int) bool {
	sources, dests := ends(c, channel)
	return len(sources) == 1 && len(dests) >= 1 && len(dests) <= api.MaxDests
}

// ends tells the ports of a channel, those that send and those that receive, by rising partition, then port; where they lie is left open.
func ends(c api.Config, channel int) (sources, dests []api.DestPlace) {
	for p, partition := range c.Partitions {
		for q, port := range partition.Ports {
			if port.Channel != channel {
				continue
			}
			end := api.DestPlace{Partition: p, Port: q}
			if port.Source {
				sources = append(sources, end)
			} else {
				dests = append(dests, end)
			}
		}
	}
	return sources, dests
}
