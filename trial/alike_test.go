package trial_test

import (
	"fmt"
	"math"
	"slices"
	"testing"

	"bulkhead/api"
	"bulkhead/trial"
)

// chain is a configuration in which 0 tells 1, 1 tells 2, and 2 tells 1 and 3; 4 is by itself, and 5 tells itself alone.
func chain(t *testing.T) api.Config {
	t.Helper()
	return configOf(t, `
		memory 60
		major 1200
		kernel 20 40
		channel sampling 1
		channel queuing 1 2
		channel sampling 2
		channel sampling 1
		partition p0 entry 0 action halt restarts 0 inputs 2 outputs 2
		  region 0 2 0 rwx
		  port 0 source
		partition p1 entry 0 action halt restarts 0 inputs 2 outputs 2
		  region 0 2 2 rwx
		  port 0 dest
		  port 1 source
		  port 2 dest
		partition p2 entry 0 action halt restarts 0 inputs 2 outputs 2
		  region 0 2 4 rwx
		  port 1 dest
		  port 2 source
		partition p3 entry 0 action halt restarts 0 inputs 2 outputs 2
		  region 0 2 6 rwx
		  port 2 dest
		partition p4 entry 0 action halt restarts 0 inputs 2 outputs 2
		  region 0 2 8 rwx
		partition p5 entry 0 action halt restarts 0 inputs 2 outputs 2
		  region 0 2 10 rwx
		  port 3 source
		  port 3 dest
		core
		  window 0 200 100
		  window 1 200 100
		  window 2 200 100
		  window 4 200 100
		core
		  window 3 200 100
		  window 5 200 700
		end`)
}

// into tells, for each partition of chain, which have a way to it, and itself.
func into() [][]int { return [][]int{{0}, {0, 1, 2}, {0, 1, 2}, {0, 1, 2, 3}, {4}, {5}} }

// chainPlay gives each partition of chain a program of three words, and feeds in two frames.
func chainPlay() api.Play {
	x := api.Play{Picks: []int{0, 1, 0, 1}}
	for q := range 6 {
		x.Programs = append(x.Programs, []uint32{0x04000000, 0x04000000, uint32(100 + q)})
		x.Feeds = append(x.Feeds, feed(q, 3, 1, uint32(q)), feed(q, 8, 2))
	}
	return x
}

// copied makes a play that has no list in common with another one.
func copied(x api.Play) api.Play {
	x.Programs, x.Feeds, x.Picks = slices.Clone(x.Programs), slices.Clone(x.Feeds), slices.Clone(x.Picks)
	for i, words := range x.Programs {
		x.Programs[i] = slices.Clone(words)
	}
	for i, f := range x.Feeds {
		x.Feeds[i].Words = slices.Clone(f.Words)
	}
	return x
}

// without is a play's feeds but those of a partition.
func without(x api.Play, q int) []api.Feed {
	return slices.DeleteFunc(x.Feeds, func(f api.Feed) bool { return f.Partition == q })
}

// P31.2: whatever is another of a partition's program or feeds is looked at by those to whom it has a way, and by nobody else.
func TestAlikeByWays(t *testing.T) {
	changes := map[string]func(x *api.Play, q int){
		"the first word":       func(x *api.Play, q int) { x.Programs[q][0]++ },
		"the last word":        func(x *api.Play, q int) { x.Programs[q][2] ^= 1 << 31 },
		"a word less":          func(x *api.Play, q int) { x.Programs[q] = x.Programs[q][:2] },
		"a word 0 more":        func(x *api.Play, q int) { x.Programs[q] = append(x.Programs[q], 0) },
		"a program of none":    func(x *api.Play, q int) { x.Programs[q] = nil },
		"a program of zeros":   func(x *api.Play, q int) { clear(x.Programs[q]) },
		"another one's words":  func(x *api.Play, q int) { x.Programs[q] = x.Programs[(q+1)%6] },
		"a feed's word":        func(x *api.Play, q int) { x.Feeds[2*q].Words[1]++ },
		"a feed's word less":   func(x *api.Play, q int) { x.Feeds[2*q].Words = x.Feeds[2*q].Words[:1] },
		"a feed's word 0 more": func(x *api.Play, q int) { x.Feeds[2*q+1].Words = []uint32{2, 0} },
		"a feed's words none":  func(x *api.Play, q int) { x.Feeds[2*q+1].Words = nil },
		"a feed's frame":       func(x *api.Play, q int) { x.Feeds[2*q+1].Epoch = 7 },
		"two feeds' frames":    func(x *api.Play, q int) { x.Feeds[2*q].Epoch, x.Feeds[2*q+1].Epoch = 8, 3 },
		"a feed less":          func(x *api.Play, q int) { x.Feeds = slices.Delete(x.Feeds, 2*q, 2*q+1) },
		"a feed more, ahead":   func(x *api.Play, q int) { x.Feeds = append(x.Feeds, feed(q, 0, 4)) },
		"a feed more, behind":  func(x *api.Play, q int) { x.Feeds = append(x.Feeds, feed(q, api.MaxEpoch-1, 0)) },
		"no feeds":             func(x *api.Play, q int) { x.Feeds = without(*x, q) },
	}
	for name, change := range changes {
		for q := range 6 {
			one, another := chainPlay(), chainPlay()
			change(&another, q)
			for p, tells := range into() {
				likes(t, chain(t), p, one, another, !slices.Contains(tells, q), fmt.Sprintf("%s, partition %d", name, q))
			}
		}
	}
}

// P31.2: a feed that goes from one partition to another is looked at on both ends.
func TestAlikeFeedMoves(t *testing.T) {
	one, another := chainPlay(), chainPlay()
	one.Feeds = append(one.Feeds, feed(4, 5, 6))
	another.Feeds = append(another.Feeds, feed(5, 5, 6))
	for p, want := range []bool{true, true, true, true, false, false} {
		likes(t, chain(t), p, one, another, want, "a feed moves")
	}
}

// P31.2: what says the same in other ways is the same: programs that are not given or have no words, feeds in another order or without words; and what the picks are is not looked at.
func TestAlikeTheSame(t *testing.T) {
	changes := map[string]func(x *api.Play){
		"nothing":                func(x *api.Play) {},
		"feeds the other way":    func(x *api.Play) { slices.Reverse(x.Feeds) },
		"feeds without words":    func(x *api.Play) { x.Feeds = append(x.Feeds, feed(1, 0), feed(4, 9), feed(0, 5)) },
		"no picks":               func(x *api.Play) { x.Picks = nil },
		"other picks":            func(x *api.Play) { x.Picks = []int{1, 1, 1, 0, 0, 0, 1} },
		"as many picks as go":    func(x *api.Play) { x.Picks = make([]int, api.MaxPicks) },
		"the last one not given": func(x *api.Play) { x.Programs = x.Programs[:5] },
		"the last one empty":     func(x *api.Play) { x.Programs[5] = []uint32{} },
	}
	one := chainPlay()
	one.Programs[5] = nil
	for name, change := range changes {
		another := chainPlay()
		another.Programs[5] = nil
		change(&another)
		for p := range 6 {
			likes(t, chain(t), p, one, another, true, name)
		}
	}
	var empty api.Play
	for p := range 6 {
		likes(t, chain(t), p, empty, api.Play{Programs: make([][]uint32, 6), Feeds: []api.Feed{feed(p, 0)}, Picks: []int{}}, true, "nothing at all")
	}
	// A program that is not given has no words: it is not the same as one that has.
	for p, want := range []bool{true, true, true, true, true, false} {
		likes(t, chain(t), p, one, chainPlay(), want, "a program that is not given")
	}
}

// A play that is refused, and by which error.
type refused struct {
	what string
	play api.Play
	want api.Errno
}

// refusedPlays are such, of known.
func refusedPlays(t *testing.T) []refused {
	t.Helper()
	one, _ := knownPlays(t)
	long := picked(one, make([]int, api.MaxPicks+1)...)
	wrong := picked(one, append(make([]int, api.MaxPicks), 2)...)
	unbootable := picked(one, make([]int, api.MaxPicks+1)...)
	unbootable.Programs = make([][]uint32, 3)
	out := []refused{
		{"too many picks", long, api.ErrLong},
		{"too many picks, one of them of no core", wrong, api.ErrLong},
		{"too many picks, and programs", unbootable, api.ErrLong},
		{"a last pick of no core", picked(one, append(make([]int, api.MaxPicks-1), 2)...), api.ErrTrialPlay},
	}
	for _, core := range []int{-1, 2, 3, 4, 5, 256, 1 << 31, 1 << 32, math.MinInt, math.MaxInt} {
		out = append(out, refused{fmt.Sprint("the pick ", core), picked(one, core), api.ErrTrialPlay})
		out = append(out, refused{fmt.Sprint("among others the pick ", core), picked(one, 0, 1, core, 0), api.ErrTrialPlay})
	}
	for what, programs := range map[string][][]uint32{
		"too many programs":           make([][]uint32, 3),
		"a program of 17 words":       {make([]uint32, 17)},
		"a second one of 17":          {nil, make([]uint32, 17)},
		"one of more than MaxProgram": {make([]uint32, api.MaxProgram+1)},
	} {
		x := one
		x.Programs = programs
		out = append(out, refused{what, x, api.ErrTrialPlay})
	}
	for what, feeds := range map[string][]api.Feed{
		"a feed of no partition":  {feed(2, 0)},
		"a feed of -1":            {feed(-1, 0, 1)},
		"a feed of two words":     {feed(0, 0, 1, 2)},
		"a feed of a frame -1":    {feed(0, -1, 1)},
		"a feed of the end":       {feed(0, api.MaxEpoch, 1)},
		"two feeds of one frame":  {feed(1, 4, 1), feed(1, 4)},
		"more feeds than may be":  manyFeeds(api.MaxFeeds + 1),
		"far more than may be":    manyFeeds(5 * api.MaxFeeds),
		"a feed behind many ones": append(manyFeeds(200), feed(3, 0)),
	} {
		x := one
		x.Feeds = feeds
		out = append(out, refused{what, x, api.ErrTrialPlay})
	}
	return out
}

// manyFeeds are so many of partition 0, frame by frame.
func manyFeeds(many int) (out []api.Feed) {
	for epoch := range many {
		out = append(out, feed(0, epoch, 1))
	}
	return out
}

// P31.2, P31.3: what is refused, whichever of the two plays it is, whatever the other one is and whatever partition is asked for: first ErrLong, then ErrTrialPlay, then ErrFlowPartition, then ErrTrialPair.
func TestRefuses(t *testing.T) {
	c := known(t)
	one, another := knownPlays(t)
	bad := refusedPlays(t)
	for _, p := range []int{0, 1, 2, -1, 9, math.MinInt, math.MaxInt} {
		for _, x := range bad {
			for _, good := range []api.Play{one, another, {}} {
				what := fmt.Sprintf("%s, partition %d", x.what, p)
				refuses(t, c, p, x.play, good, x.want, what)
				refuses(t, c, p, good, x.play, x.want, what)
			}
		}
	}
	for _, x := range bad {
		for _, y := range bad[:6] {
			want := api.ErrTrialPlay
			if x.want == api.ErrLong || y.want == api.ErrLong {
				want = api.ErrLong
			}
			refuses(t, c, 9, x.play, y.play, want, x.what+"; "+y.what)
			refuses(t, c, 1, y.play, x.play, want, y.what+"; "+x.what)
		}
	}
	for _, p := range []int{-1, 2, 3, 8, 256, 1 << 32, math.MinInt, math.MaxInt} {
		refuses(t, c, p, one, one, api.ErrFlowPartition, "no such partition")
		refuses(t, c, p, one, another, api.ErrFlowPartition, "no such partition, of two that need not look alike")
	}
}

// P31.2: feeds and picks as many as may be, and programs as long, are not refused.
func TestTakesTheMost(t *testing.T) {
	c := configOf(t, `
		memory 72
		major 400
		kernel 64 8
		partition a entry 0 action halt restarts 0 inputs 1 outputs 1
		  region 0 64 0 rwx
		core
		  window 0 300 100
		end`)
	x := api.Play{Programs: [][]uint32{make([]uint32, api.MaxProgram)}, Feeds: manyFeeds(api.MaxFeeds), Picks: make([]int, api.MaxPicks)}
	likes(t, c, 0, x, x, true, "the most")
	y := copied(x)
	y.Feeds[api.MaxFeeds-1].Words[0]++
	parts(t, c, 0, x, y, "the last feed")
	y = copied(x)
	y.Programs[0][api.MaxProgram-1]++
	parts(t, c, 0, x, y, "the last word")
}

// P31.2, R8: a configuration that does not hold together cannot be booted; that comes behind ErrLong, and ahead of ErrFlowPartition, of a wide one too.
func TestRefusesConfigs(t *testing.T) {
	one, another := knownPlays(t)
	long := picked(one, make([]int, api.MaxPicks+1)...)
	configs := map[string]func(c *api.Config){
		"nothing":               func(c *api.Config) { *c = api.Config{} },
		"a frame too short":     func(c *api.Config) { c.Major = 399 },
		"no cores":              func(c *api.Config) { c.Cores = nil },
		"too many cores":        func(c *api.Config) { c.Cores = append(c.Cores, c.Cores[0], c.Cores[0], c.Cores[0]) },
		"no partitions":         func(c *api.Config) { c.Partitions = nil },
		"too many partitions":   func(c *api.Config) { c.Partitions = slices.Repeat(c.Partitions, 5) },
		"too many ports":        func(c *api.Config) { c.Partitions[1].Ports = make([]api.Port, api.MaxPorts+1) },
		"a port of no channel":  func(c *api.Config) { c.Partitions[0].Ports = []api.Port{{Channel: 0, Source: true}} },
		"a kernel without room": func(c *api.Config) { c.Room = 7 },
	}
	for what, change := range configs {
		c := known(t)
		change(&c)
		for _, p := range []int{0, 1, 2, -1} {
			refuses(t, c, p, one, one, api.ErrTrialPlay, what)
			refuses(t, c, p, api.Play{}, api.Play{}, api.ErrTrialPlay, what)
			refuses(t, c, p, one, another, api.ErrTrialPlay, what)
			refuses(t, c, p, one, long, api.ErrLong, what)
			refuses(t, c, p, long, one, api.ErrLong, what)
		}
	}
}

// R5: neither the configuration nor the plays are changed, nor the room behind their lists, and an answer keeps to itself what it has made of them.
func TestChangesNothing(t *testing.T) {
	c := chain(t)
	one, another := chainPlay(), chainPlay()
	slices.Reverse(another.Feeds)
	for i := range one.Programs {
		one.Programs[i] = append(one.Programs[i], 7, 7)[:3]
	}
	one.Feeds, one.Picks, one.Programs = append(one.Feeds, feed(-1, -1, 9))[:12], append(one.Picks, 55)[:4], append(one.Programs, []uint32{8})[:6]
	room := func(x api.Play) api.Play {
		x = copied(api.Play{Programs: x.Programs[:cap(x.Programs)], Feeds: x.Feeds[:cap(x.Feeds)], Picks: x.Picks[:cap(x.Picks)]})
		for i := range x.Programs {
			x.Programs[i] = slices.Clone(x.Programs[i][:cap(x.Programs[i])])
		}
		return x
	}
	first, second := room(one), room(another)
	for p := range 6 {
		trial.Alike(c, p, one, another)
		if _, e := trial.Try(c, p, one, another); e != api.OK {
			t.Errorf("Try of %d: error %d", p, e)
		}
	}
	for _, x := range [][2]api.Play{{room(one), first}, {room(another), second}} {
		if fmt.Sprint(x[0]) != fmt.Sprint(x[1]) {
			t.Errorf("a play has become\n%v, it was\n%v", x[0], x[1])
		}
	}
	if fmt.Sprint(c) != fmt.Sprint(chain(t)) {
		t.Errorf("the configuration has become %v", c)
	}
}
