package text

import (
	"slices"
	"strings"

	"bulkhead/api"
)

// The places of a form that are not fixed, by the document's names for them.
const (
	placeName   = "NAME"
	placeNumber = "N"
	placeOwner  = "W"
	placeAction = "A"
	placeRights = "R"
)

// saying: how the lines that begin with one word stand, and what they say.
type saying struct {
	forms []string // the ways in which such a line can stand, place by place
	next  string   // the first words that may come behind it
	say   func(c *api.Config, words []string, numbers []int)
}

// sayings tells them by their first words. That nothing but what stands in next comes behind a line is why a region, a port or a window finds what it belongs to.
func sayings() map[string]saying {
	return map[string]saying{
		"memory":  {[]string{"memory N"}, "major", sayMemory},
		"major":   {[]string{"major N"}, "kernel", sayMajor},
		"kernel":  {[]string{"kernel N N"}, "channel partition core end", sayKernel},
		"channel": {[]string{"channel sampling N", "channel queuing N N"}, "channel partition core end", sayChannel},
		"partition": {
			[]string{"partition NAME entry N action A restarts N inputs N outputs N"},
			"region port partition core end",
			sayPartition,
		},
		"region": {[]string{"region N N N R"}, "region port partition core end", sayRegion},
		"port":   {[]string{"port N source", "port N dest"}, "port partition core end", sayPort},
		"core":   {[]string{"core"}, "window core end", sayCore},
		"window": {[]string{"window W N N"}, "window core end", sayWindow},
		"end":    {[]string{"end"}, "", sayNothing},
	}
}

// fits tells whether a line has the words that a form must have. Names and numbers are let by: what is wrong with them comes behind what is wrong with any other word of the line.
func fits(places, words []string) bool {
	return slices.EqualFunc(places, words, func(place, word string) bool {
		switch place {
		case placeName, placeNumber, placeOwner:
			return true
		case placeAction:
			return slices.Contains(actions[:], word)
		case placeRights:
			_, ok := rightsOf(word)
			return ok
		}
		return place == word
	})
}

// numbersOf tells the numbers of a line that fits its form: those of its places that stand for one, in their order.
func numbersOf(places, words []string) ([]int, api.Errno) {
	var numbers []int
	for i, place := range places {
		n, ok := 0, true
		switch place {
		case placeNumber:
			n, ok = numberOf(words[i])
		case placeOwner:
			n, ok = windowOwner(words[i])
		case placeAction:
			n = slices.Index(actions[:], words[i])
		case placeRights:
			n, ok = rightsOf(words[i])
		case placeName:
			if !isName(words[i]) {
				return nil, api.ErrTextName
			}
			continue
		default:
			continue
		}
		if !ok {
			return nil, api.ErrTextNumber
		}
		numbers = append(numbers, n)
	}
	return numbers, api.OK
}

func sayMemory(c *api.Config, _ []string, n []int) { c.Frames = n[0] }

func sayMajor(c *api.Config, _ []string, n []int) { c.Major = n[0] }

func sayKernel(c *api.Config, _ []string, n []int) { c.Kernel, c.Room = n[0], n[1] }

func sayChannel(c *api.Config, words []string, n []int) {
	channel := api.Channel{Kind: api.KindSampling, Words: n[0]}
	if words[1] == "queuing" {
		channel.Kind, channel.Depth = api.KindQueuing, n[1]
	}
	c.Channels = append(c.Channels, channel)
}

func sayPartition(c *api.Config, words []string, n []int) {
	c.Partitions = append(c.Partitions, api.Partition{
		Name:     strings.Clone(words[1]), // a piece of the text would keep all of it
		Entry:    n[0],
		Action:   n[1],
		Restarts: n[2],
		Inputs:   n[3],
		Outputs:  n[4],
	})
}

func sayRegion(c *api.Config, _ []string, n []int) {
	p := &c.Partitions[len(c.Partitions)-1]
	p.Regions = append(p.Regions, api.Region{Page: n[0], Pages: n[1], Frame: n[2], Rights: n[3]})
}

func sayPort(c *api.Config, words []string, n []int) {
	p := &c.Partitions[len(c.Partitions)-1]
	p.Ports = append(p.Ports, api.Port{Channel: n[0], Source: words[2] == "source"})
}

func sayCore(c *api.Config, _ []string, _ []int) { c.Cores = append(c.Cores, nil) }

func sayWindow(c *api.Config, _ []string, n []int) {
	windows := &c.Cores[len(c.Cores)-1]
	*windows = append(*windows, api.Window{Partition: n[0], Usable: n[1], Slack: n[2]})
}

func sayNothing(*api.Config, []string, []int) {}
