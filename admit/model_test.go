package admit_test

import (
	"math"
	"math/rand/v2"
	"reflect"
	"regexp"
	"slices"
	"strconv"
	"testing"

	"bulkhead/admit"
	"bulkhead/api"
	"bulkhead/conf"
)

// found is what the model gives up with.
type found struct {
	e     api.Errno
	where api.Where
}

func refuse(wrong bool, e api.Errno, first, second int) {
	if wrong {
		panic(found{e, api.Where{First: first, Second: second}})
	}
}

// outside tells whether a number is none of those from the least to the greatest.
func outside(n, least, greatest int) bool { return n < least || n > greatest }

// modelCheck goes down the document's list with what each page, frame and partition has been given away to.
func modelCheck(c api.Config) (e api.Errno, where api.Where) {
	defer func() {
		if f, ok := recover().(found); ok {
			e, where = f.e, f.where
		}
	}()
	refuse(outside(c.Frames, 1, 1024), 400, -1, -1)
	refuse(outside(c.Major, 1, 16384), 401, -1, -1)
	refuse(outside(len(c.Cores), 1, 4), 402, -1, -1)
	refuse(outside(len(c.Partitions), 1, 8), 403, -1, -1)
	refuse(len(c.Channels) > 16, 404, -1, -1)
	frames, names := map[int]int{}, map[string]int{}
	for p, x := range c.Partitions {
		modelPartition(c, p, frames, names)
		names[x.Name]++
	}
	for n := range c.Channels {
		modelChannel(c, n)
	}
	cores := map[int]int{}
	for k := range c.Cores {
		modelCore(c, k, cores)
	}
	refuse(outside(c.Kernel, 0, c.Frames-1) || outside(c.Room, 1, c.Frames-c.Kernel), 423, -1, -1)
	for f := range c.Room {
		refuse(frames[c.Kernel+f] > 0, 423, -1, -1)
	}
	refuse(modelNeed(c) > c.Room, 423, -1, -1)
	return 0, api.Where{}
}

var nameForm = regexp.MustCompile(`\A[a-z][a-z0-9-]{0,15}\z`)

func modelPartition(c api.Config, p int, frames map[int]int, names map[string]int) {
	x := c.Partitions[p]
	refuse(!nameForm.MatchString(x.Name) || names[x.Name] > 0, 405, p, -1)
	refuse(outside(x.Action, 0, 2) || outside(x.Restarts, 0, 15), 406, p, -1)
	refuse(outside(x.Inputs, 0, 16) || outside(x.Outputs, 0, 16), 407, p, -1)
	refuse(outside(len(x.Regions), 1, 8), 408, p, -1)
	rights := map[int]int{}
	for i, r := range x.Regions {
		refuse(outside(r.Page, 0, 255) || outside(r.Pages, 1, 256) || r.Page+r.Pages > 256, 409, p, i)
		refuse(outside(r.Frame, 0, 1023) || r.Frame+r.Pages > c.Frames || outside(r.Rights, 1, 7), 409, p, i)
		for n := range r.Pages {
			refuse(rights[r.Page+n] > 0, 410, p, i)
		}
		for n := range r.Pages {
			refuse(frames[r.Frame+n] > 0, 411, p, i)
		}
		for n := range r.Pages {
			rights[r.Page+n] = r.Rights
			frames[r.Frame+n]++
		}
	}
	refuse(outside(x.Entry, 0, 4095) || rights[x.Entry/16] < 4, 412, p, -1)
	refuse(len(x.Ports) > 8, 413, p, -1)
	for q, port := range x.Ports {
		refuse(outside(port.Channel, 0, len(c.Channels)-1), 414, p, q)
	}
}

// modelEnds counts a channel's sources and destinations.
func modelEnds(c api.Config, n int) (sources, dests int) {
	for _, x := range c.Partitions {
		for _, port := range x.Ports {
			if port.Channel == n && port.Source {
				sources++
			} else if port.Channel == n {
				dests++
			}
		}
	}
	return sources, dests
}

func modelChannel(c api.Config, n int) {
	h := c.Channels[n]
	refuse(outside(h.Kind, 1, 2) || outside(h.Words, 1, 16), 415, n, -1)
	refuse(h.Kind == 1 && h.Depth != 0 || h.Kind == 2 && outside(h.Depth, 1, 8), 415, n, -1)
	sources, dests := modelEnds(c, n)
	refuse(sources != 1, 416, n, -1)
	refuse(h.Kind == 1 && outside(dests, 1, 4) || h.Kind == 2 && dests != 1, 417, n, -1)
}

// modelCore notes of each partition the core that has its windows, from 1 on.
func modelCore(c api.Config, k int, cores map[int]int) {
	refuse(outside(len(c.Cores[k]), 1, 16), 418, k, -1)
	left := c.Major
	for i, w := range c.Cores[k] {
		refuse(outside(w.Partition, -1, len(c.Partitions)-1) || outside(w.Usable, 1, 16384), 419, k, i)
		refuse(outside(w.Slack, 82, 16384), 420, k, i)
		if w.Partition >= 0 {
			refuse(cores[w.Partition] > 0 && cores[w.Partition] != k+1, 422, k, i)
			cores[w.Partition] = k + 1
		}
		left -= w.Usable + w.Slack
	}
	refuse(left != 0, 421, k, -1)
}

// modelNeed counts the kernel's words, then its frames.
func modelNeed(c api.Config) int {
	words := 2 + 24*len(c.Partitions)
	for n, h := range c.Channels {
		_, dests := modelEnds(c, n)
		if h.Kind == 1 {
			words += 2 + (2 + h.Words) + dests*(3+h.Words)
		} else {
			words += 2 + (1 + h.Depth*(1+h.Words)) + dests*(3+h.Depth*(1+h.Words))
		}
	}
	frames := (words + 15) / 16
	for _, x := range c.Partitions {
		tables := map[int]int{}
		for _, r := range x.Regions {
			for n := range r.Pages {
				tables[(r.Page+n)/16]++
			}
		}
		frames += 1 + len(tables)
	}
	return frames
}

// dice make configurations by chance, always the same ones.
type dice struct{ *rand.Rand }

func seeded(seed uint64) dice { return dice{rand.New(rand.NewPCG(16, seed))} }

// config makes a configuration that holds together.
func (d dice) config() api.Config {
	for {
		var c api.Config
		d.partitions(&c)
		d.channels(&c)
		d.cores(&c)
		d.frames(&c)
		if c.Frames <= 1024 {
			return c
		}
	}
}

func (d dice) partitions(c *api.Config) {
	for p := range 1 + d.IntN(8) {
		x := api.Partition{Name: string(rune('a'+p)) + strconv.Itoa(d.IntN(1000)), Action: d.IntN(3), Restarts: d.IntN(16), Inputs: d.IntN(17), Outputs: d.IntN(17)}
		page := 0
		for range 1 + d.IntN(8) {
			page += d.IntN(20)
			pages := 1 + d.IntN(5)
			x.Regions = append(x.Regions, api.Region{Page: page, Pages: pages, Rights: 1 + d.IntN(7)})
			page += pages
		}
		d.Shuffle(len(x.Regions), func(i, j int) { x.Regions[i], x.Regions[j] = x.Regions[j], x.Regions[i] })
		r := &x.Regions[d.IntN(len(x.Regions))]
		r.Rights |= api.RightRun
		x.Entry = 16*r.Page + d.IntN(16*r.Pages)
		c.Partitions = append(c.Partitions, x)
	}
}

// channels makes channels as long as there are ports left for them.
func (d dice) channels(c *api.Config) {
	for n := range d.IntN(17) {
		h, dests := api.Channel{Kind: api.KindSampling, Words: 1 + d.IntN(16)}, 1+d.IntN(4)
		if d.IntN(2) == 0 {
			h, dests = api.Channel{Kind: api.KindQueuing, Words: 1 + d.IntN(16), Depth: 1 + d.IntN(8)}, 1
		}
		var free []int
		for p, x := range c.Partitions {
			for range 8 - len(x.Ports) {
				free = append(free, p)
			}
		}
		if len(free) < 1+dests {
			return
		}
		d.Shuffle(len(free), func(i, j int) { free[i], free[j] = free[j], free[i] })
		for i, p := range free[:1+dests] {
			x := &c.Partitions[p]
			x.Ports = slices.Insert(x.Ports, d.IntN(len(x.Ports)+1), api.Port{Channel: n, Source: i == 0})
		}
		c.Channels = append(c.Channels, h)
	}
}

// cores deals partitions to cores, and cuts each core's frame into windows.
func (d dice) cores(c *api.Config) {
	c.Cores = make([][]api.Window, 1+d.IntN(4))
	whose := make([][]int, len(c.Cores))
	for p := range c.Partitions {
		k := d.IntN(len(c.Cores))
		whose[k] = append(whose[k], p)
	}
	c.Major = 83 + d.IntN(16384-82)
	for k := range c.Cores {
		many := 1 + d.IntN(min(16, c.Major/83))
		left := c.Major - 83*many
		for i := range many {
			more := d.IntN(left + 1)
			if i == many-1 {
				more = left
			}
			left -= more
			usable := d.IntN(more + 1)
			w := api.Window{Partition: -1, Usable: 1 + usable, Slack: 82 + more - usable}
			if n := d.IntN(len(whose[k]) + 1); n > 0 {
				w.Partition = whose[k][n-1]
			}
			c.Cores[k] = append(c.Cores[k], w)
		}
		d.Shuffle(many, func(i, j int) { c.Cores[k][i], c.Cores[k][j] = c.Cores[k][j], c.Cores[k][i] })
	}
}

// frames deals the memory's frames to all regions and to the kernel, in any order, here and there with some between.
func (d dice) frames(c *api.Config) {
	c.Room = modelNeed(*c) + d.IntN(3)
	takers := []func(frame int) int{func(frame int) int {
		c.Kernel = frame
		return c.Room
	}}
	for p := range c.Partitions {
		for i := range c.Partitions[p].Regions {
			takers = append(takers, func(frame int) int {
				r := &c.Partitions[p].Regions[i]
				r.Frame = frame
				return r.Pages
			})
		}
	}
	d.Shuffle(len(takers), func(i, j int) { takers[i], takers[j] = takers[j], takers[i] })
	for _, take := range takers {
		c.Frames += d.IntN(3)
		c.Frames += take(c.Frames)
	}
	c.Frames += d.IntN(3)
}

// numbers are all numbers of a configuration.
func numbers(c *api.Config) []*int {
	list := []*int{&c.Frames, &c.Major, &c.Kernel, &c.Room}
	for k := range c.Cores {
		for i := range c.Cores[k] {
			w := &c.Cores[k][i]
			list = append(list, &w.Partition, &w.Usable, &w.Slack)
		}
	}
	for p := range c.Partitions {
		x := &c.Partitions[p]
		list = append(list, &x.Entry, &x.Action, &x.Restarts, &x.Inputs, &x.Outputs)
		for i := range x.Regions {
			r := &x.Regions[i]
			list = append(list, &r.Page, &r.Pages, &r.Frame, &r.Rights)
		}
		for q := range x.Ports {
			list = append(list, &x.Ports[q].Channel)
		}
	}
	for n := range c.Channels {
		h := &c.Channels[n]
		list = append(list, &h.Kind, &h.Words, &h.Depth)
	}
	return list
}

// spoil changes one thing of a configuration.
func (d dice) spoil(c *api.Config) {
	if d.IntN(3) == 0 {
		d.spoilLists(c)
		return
	}
	all := numbers(c)
	n := all[d.IntN(len(all))]
	edges := []int{-2, -1, 0, 1, 2, 3, 7, 8, 9, 15, 16, 17, 80, 81, 82, 255, 256, 257, 1023, 1024, 1025, 4095, 4096, 16384, 16385, 1 << 32, 1 << 62, math.MaxInt, math.MinInt}
	switch d.IntN(4) {
	case 0:
		*n = edges[d.IntN(len(edges))]
	case 1:
		*n = *all[d.IntN(len(all))]
	default:
		*n += d.IntN(5) - 2
	}
}

// spoilLists makes a list longer or shorter, or changes what is no number.
func (d dice) spoilLists(c *api.Config) {
	if len(c.Partitions) == 0 || len(c.Cores) == 0 {
		return
	}
	x, k := &c.Partitions[d.IntN(len(c.Partitions))], d.IntN(len(c.Cores))
	switch d.IntN(8) {
	case 0:
		c.Cores = resize(d, c.Cores, 4)
	case 1:
		c.Partitions = resize(d, c.Partitions, 8)
	case 2:
		c.Channels = resize(d, c.Channels, 16)
	case 3:
		x.Regions = resize(d, x.Regions, 8)
	case 4:
		x.Ports = resize(d, x.Ports, 8)
	case 5:
		c.Cores[k] = resize(d, c.Cores[k], 16)
	case 6:
		x.Name = []string{"", "a", "Z", c.Partitions[0].Name, "a234567890123456", "a2345678901234567", "0", "a_"}[d.IntN(8)]
	case 7:
		if len(x.Ports) > 0 {
			q := &x.Ports[d.IntN(len(x.Ports))]
			q.Source = !q.Source
		}
	}
}

// resize takes all of a list away or one of it, or has one stand in it again, once or till there are too many.
func resize[T any](d dice, list []T, most int) []T {
	list = slices.Clone(list)
	if len(list) == 0 {
		return make([]T, d.IntN(most+2))
	}
	i := d.IntN(len(list))
	switch d.IntN(4) {
	case 0:
		return nil
	case 1:
		return slices.Delete(list, i, i+1)
	case 2:
		return slices.Insert(list, i, list[i])
	}
	for len(list) <= most {
		list = append(list, list[i])
	}
	return list
}

// checkBoth holds Check and Admit against the model, and tells what the model says.
func checkBoth(t *testing.T, c api.Config) api.Errno {
	t.Helper()
	e, where := modelCheck(c)
	wantCheck(t, "by chance", c, e, where)
	if t.Failed() {
		t.Fatalf("%+v", c)
	}
	return e
}

// P16.1, P16.2: configurations that hold together, and such with one to three things changed. Each fault must come up, else the test says nothing of it.
func TestRandomConfigurations(t *testing.T) {
	seen := map[api.Errno]int{}
	for seed := range uint64(1500) {
		d := seeded(seed)
		c := d.config()
		if e := checkBoth(t, c); e != api.OK {
			t.Fatalf("seed %d: %d of one that was made to hold together", seed, e)
		}
		for range 10 {
			x := plain(c)
			for range 1 + d.IntN(3) {
				d.spoil(&x)
			}
			seen[checkBoth(t, x)]++
		}
	}
	for e := api.Errno(400); e < 424; e++ {
		if seen[e] < 10 {
			t.Errorf("fault %d came up %d times", e, seen[e])
		}
	}
	if seen[api.OK] < 500 {
		t.Errorf("%d held together all the same", seen[api.OK])
	}
}

// P16.3: what holds together, holds: everything is looked at by itself, frame by frame.
func TestWhatHoldsTogetherHolds(t *testing.T) {
	held := 0
	for seed := range uint64(3000) {
		d := seeded(10000 + seed)
		c := d.config()
		for range d.IntN(4) {
			d.spoil(&c)
		}
		if e, _ := admit.Check(c); e != api.OK {
			continue
		}
		held++
		if why := broken(c); why != "" {
			t.Fatalf("seed %d: %s: %+v", seed, why, c)
		}
	}
	if held < 1000 {
		t.Errorf("%d held together", held)
	}
}

// broken tells what of P16.3 does not hold.
func broken(c api.Config) string {
	owner := make([]int, c.Frames)
	for f := c.Kernel; f < c.Kernel+c.Room; f++ {
		owner[f] = -1
	}
	for p, x := range c.Partitions {
		for _, r := range x.Regions {
			for f := r.Frame; f < r.Frame+r.Pages; f++ {
				if f < 0 || f >= c.Frames {
					return "a frame that is not there"
				}
				if owner[f] != 0 {
					return "a frame that two have"
				}
				owner[f] = p + 1
			}
		}
	}
	core := map[int]int{}
	for k, windows := range c.Cores {
		time := 0
		for _, w := range windows {
			time += w.Usable + w.Slack
			if before, ok := core[w.Partition]; ok && before != k && w.Partition >= 0 {
				return "windows on two cores"
			}
			core[w.Partition] = k
		}
		if time != c.Major {
			return "a frame of time that is not filled"
		}
	}
	for n := range c.Channels {
		if sources, _ := modelEnds(c, n); sources != 1 {
			return "not one source"
		}
	}
	if modelNeed(c) > c.Room {
		return "no room for the kernel's words"
	}
	return ""
}

// P16.4: whether it holds together does not hang on the order of regions and of windows.
func TestOrderOfRegionsAndWindows(t *testing.T) {
	held, refused := 0, 0
	for seed := range uint64(1000) {
		d := seeded(20000 + seed)
		c := d.config()
		for range d.IntN(3) {
			d.spoil(&c)
		}
		e, _ := admit.Check(c)
		if e == api.OK {
			held++
		} else {
			refused++
		}
		for range 10 {
			x := plain(c)
			for _, p := range x.Partitions {
				d.Shuffle(len(p.Regions), func(i, j int) { p.Regions[i], p.Regions[j] = p.Regions[j], p.Regions[i] })
			}
			for _, w := range x.Cores {
				d.Shuffle(len(w), func(i, j int) { w[i], w[j] = w[j], w[i] })
			}
			if got := checkBoth(t, x); (got == api.OK) != (e == api.OK) {
				t.Fatalf("seed %d: %d in one order, %d in another: %+v", seed, e, got, x)
			}
		}
	}
	if held < 200 || refused < 200 {
		t.Errorf("%d held together, %d did not", held, refused)
	}
}

// P16.2: bytes by chance, and such of a configuration with some of them changed.
func TestRandomBytes(t *testing.T) {
	for seed := range uint64(3000) {
		d := seeded(30000 + seed)
		b, _ := conf.Encode(d.config())
		for range d.IntN(3) {
			b[d.IntN(len(b))] = byte(d.IntN(256))
		}
		b = append(b[:len(b)-d.IntN(2)*d.IntN(len(b))], make([]byte, d.IntN(2)*d.IntN(3))...)
		want, place, wrong := conf.Decode(b)
		e, where := modelCheck(want)
		if wrong != api.OK {
			e, where = 424, api.Where{First: place, Second: int(wrong)}
		}
		if e != api.OK {
			want = api.Config{}
		}
		if got, gotE, gotWhere := admit.Admit(b); !reflect.DeepEqual(plain(got), plain(want)) || gotE != e || gotWhere != where {
			t.Fatalf("seed %d: %+v, %d, %v, want %+v, %d, %v", seed, got, gotE, gotWhere, want, e, where)
		}
	}
}
