package admit

import "bulkhead/api"

// channelQuestions are what is asked of a channel.
func channelQuestions(c api.Config, n int) []question {
	h := c.Channels[n]
	here := api.Where{First: n, Second: unnamed}
	return []question{
		func() fault { return unless(isChannel(h), api.ErrAdmitChannel, here) },
		func() fault {
			return unless(countPorts(c, api.Port{Channel: n, Source: true}) == 1, api.ErrAdmitSource, here)
		},
		func() fault {
			return unless(within(countPorts(c, api.Port{Channel: n}), 1, mostDests(h)), api.ErrAdmitDests, here)
		},
	}
}

// isChannel tells whether there may be such a channel.
func isChannel(h api.Channel) bool {
	if !within(h.Words, 1, api.MaxMessage) {
		return false
	}
	switch h.Kind {
	case api.KindSampling:
		return h.Depth == 0
	case api.KindQueuing:
		return within(h.Depth, 1, api.MaxDepth)
	}
	return false
}

// mostDests tells how many destinations a channel may have.
func mostDests(h api.Channel) int {
	if h.Kind == api.KindQueuing {
		return 1
	}
	return api.MaxDests
}

// countPorts tells how many ports of all partitions are like this one.
func countPorts(c api.Config, like api.Port) int {
	n := 0
	for _, partition := range c.Partitions {
		for _, port := range partition.Ports {
			if port == like {
				n++
			}
		}
	}
	return n
}
