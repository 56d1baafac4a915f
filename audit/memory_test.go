package audit_test

import (
	"math"
	"testing"

	"bulkhead/api"
	"bulkhead/layout"
	"bulkhead/mem"
)

// P28.1: where the words of wide lie; the tests below lean on it.
func TestWide(t *testing.T) {
	c := wide(t)
	for at, want := range map[int]api.Owner{
		320: {Kind: api.OwnBarrier}, 322: {Kind: api.OwnLock}, 346: {Kind: api.OwnLock, Index: 1}, 370: {Kind: api.OwnLock, Index: 2},
		341: {Kind: api.OwnState}, 365: {Kind: api.OwnState, Index: 1}, 389: {Kind: api.OwnState, Index: 2},
		394: {Kind: api.OwnChannel}, 396: {Kind: api.OwnStage}, 406: {Kind: api.OwnPort, Index: 1, Port: 1},
		418: {Kind: api.OwnChannel, Index: 1}, 420: {Kind: api.OwnStage, Index: 1},
		425: {Kind: api.OwnPort, Port: 1}, 431: {Kind: api.OwnPort, Port: 2}, 437: {Kind: api.OwnPort, Index: 1}, 443: {Kind: api.OwnPort, Index: 2, Port: 1},
	} {
		got, _ := layout.Owner(c, at)
		before, _ := layout.Owner(c, at-1)
		if got != want || before == want {
			t.Errorf("the word %d is of %v, want %v", at, got, want)
		}
	}
	l, _ := layout.Of(c)
	if p := l.Partitions; p[0].Root != 29 || p[1].Root != 31 || p[2].Root != 34 || l.End != 37 {
		t.Errorf("the tables lie at %+v, the end is %d", p, l.End)
	}
}

// row is words that are written, and the problem that is found then; none: Kind is 0.
type row struct {
	words []word
	want  api.Problem
}

// asks goes through rows, each with a memory of its own.
func asks(t *testing.T, c api.Config, rows []row) {
	t.Helper()
	for _, x := range rows {
		m := with(t, booted(t, c), x.words...)
		var want []api.Problem
		if x.want.Kind != 0 {
			want = []api.Problem{x.want}
		}
		t.Log(x.words)
		finds(t, c, m, want...)
	}
}

// P28.1, 1: more cores have come than there are, or the epoch is above MaxEpoch; both are one problem.
func TestBarrier(t *testing.T) {
	problem := api.Problem{Kind: api.ProblemBarrier, Index: -1, At: 320}
	asks(t, wide(t), []row{
		{[]word{{320, 3}}, api.Problem{}},
		{[]word{{320, 4}}, problem},
		{[]word{{320, math.MaxUint32}}, problem},
		{[]word{{321, api.MaxEpoch}}, api.Problem{}},
		{[]word{{320, 3}, {321, api.MaxEpoch}}, api.Problem{}},
		{[]word{{321, api.MaxEpoch + 1}}, problem},
		{[]word{{321, math.MaxUint32}}, problem},
		{[]word{{320, 4}, {321, api.MaxEpoch + 1}}, problem},
	})
}

// P28.1, 2 and 3: tickets that are out: one of a partition's lock, as many as there are cores of a channel's; counted round the end of the words.
func TestLocks(t *testing.T) {
	c := wide(t)
	for _, x := range []struct{ index, at, most int }{{0, 322, 1}, {1, 346, 1}, {2, 370, 1}, {16, 394, 3}, {17, 418, 3}} {
		problem := api.Problem{Kind: api.ProblemLock, Index: x.index, At: x.at}
		for _, turn := range []uint32{0, 1, 7, 1 << 31, math.MaxUint32, math.MaxUint32 - 1} {
			var rows []row
			for out := range x.most + 1 {
				rows = append(rows, row{[]word{{x.at, turn + uint32(out)}, {x.at + 1, turn}}, api.Problem{}})
			}
			for _, out := range []uint32{uint32(x.most) + 1, 1 << 31, 1<<31 + 1, math.MaxUint32} {
				rows = append(rows, row{[]word{{x.at, turn + out}, {x.at + 1, turn}}, problem})
			}
			asks(t, c, rows)
		}
	}
}

// P28.1, 2: the first wrong word of a state alone, against what this partition may have.
func TestStates(t *testing.T) {
	const any = math.MaxUint32
	c := wide(t)
	for p, most := range [][5]uint32{{3, 2, 6, any, 16}, {3, 15, 6, any, 0}, {3, 0, 6, any, 2}} {
		at := 341 + 24*p
		all := func(words [5]uint32) (out []word) {
			for i, w := range words {
				out = append(out, word{at + i, w})
			}
			return out
		}
		problem := func(i int) api.Problem { return api.Problem{Kind: api.ProblemState, Index: p, At: at + i} }
		rows := []row{{all(most), api.Problem{}}, {all([5]uint32{any, any, any, any, any}), problem(0)}}
		for i := range most {
			if most[i] == any {
				continue
			}
			one, late := most, most
			one[i]++
			rows = append(rows, row{all(one), problem(i)}, row{[]word{{at + i, any}}, problem(i)}, row{[]word{{at + i, 1 << 31}}, problem(i)})
			for j := i; j < len(late); j++ {
				late[j] = any
			}
			rows = append(rows, row{all(late), problem(i)})
		}
		asks(t, c, rows)
	}
}

// from tells words that are written one behind the other.
func from(at int, words ...uint32) (out []word) {
	for i, w := range words {
		out = append(out, word{at + i, w})
	}
	return out
}

// P28.1, 3: stages of both kinds, right and wrong (chapters 19 and 20).
func TestStages(t *testing.T) {
	queued := api.Problem{Kind: api.ProblemStage, Index: 0, At: 396}
	sampled := api.Problem{Kind: api.ProblemStage, Index: 1, At: 420}
	asks(t, wide(t), []row{
		{from(396, 1, 1, 9, 0), api.Problem{}},
		{from(396, 3, 1, 9, 0, 2, 8, 7, 2, 0, 0), api.Problem{}},
		{from(396, 4, 1, 9, 0, 2, 8, 7, 2, 0, 0), queued},
		{from(396, 2, 1, 9, 0), queued},
		{from(396, 1, 3, 9, 8), queued},
		{from(396, 1, 1, 9, 8), queued},
		{from(396, 0, 1, 9), queued},
		{from(405, 1), queued},
		{from(420, 1, 1, 9), api.Problem{}},
		{from(420, 1, 3, 9, 0, 7), api.Problem{}},
		{from(420, 1, 2, 9, 0, 7), sampled},
		{from(420, 1, 4, 9, 0, 7), sampled},
		{from(420, 1), sampled},
		{from(420, 2, 1, 9), sampled},
		{from(420, 0, 1, 9), sampled},
		{from(424, 1), sampled},
	})
}

// P28.1, 3: ports of both kinds, right and wrong, each destination by itself.
func TestPorts(t *testing.T) {
	queued := api.Problem{Kind: api.ProblemPort, Index: 0, At: 406}
	asks(t, wide(t), []row{
		{from(406, 0, 0, math.MaxUint32), api.Problem{}},
		{from(406, 0, 1, 5, 1, 9, 0), api.Problem{}},
		{from(406, 2, 2, 0, 1, 9, 0, 0, 0, 0, 2, 0, 0), api.Problem{}},
		{from(406, 1, 2, 0, 1, 9, 0, 0, 0, 0, 2, 0, 0), queued},
		{from(406, 1, 0, 0), queued},
		{from(406, 3, 1, 0, 1, 9, 0), queued},
		{from(406, 0, 4, 0, 1, 9, 0, 1, 9, 0, 1, 9, 0), queued},
		{from(406, 0, 1, 0, 3, 9, 9), queued},
		{from(406, 0, 1, 0, 1, 9, 9), queued},
		{from(417, 1), queued},
	})
	for _, at := range []int{425, 431, 437, 443} {
		sampled := api.Problem{Kind: api.ProblemPort, Index: 1, At: at}
		asks(t, wide(t), []row{
			{from(at, 1, 0, 1, 9), api.Problem{}},
			{from(at, 1, 1, 3, 0, 0, 9), api.Problem{}},
			{from(at, 1, 2, 1, 9), sampled},
			{from(at, 1, 1, 0), sampled},
			{from(at, 1, 1, 4, 1, 1, 1), sampled},
			{from(at, 1, 1, 2, 1, 1, 1), sampled},
			{from(at, 2, 1, 1, 9), sampled},
			{from(at, 0, 1), sampled},
			{from(at+5, 1), sampled},
		})
	}
}

// P28.1, 4: each word of a root and of a table, also its bits that nobody looks at; those of words beside them say nothing.
func TestTables(t *testing.T) {
	c := wide(t)
	l, _ := layout.Of(c)
	whose := func(frame int) int {
		for p, place := range l.Partitions {
			if frame >= place.Root && frame <= place.Root+len(place.Tables) {
				return p
			}
		}
		return -1
	}
	for at := range c.Frames * api.FrameWords {
		p := whose(at / api.FrameWords)
		if p < 0 {
			continue
		}
		for _, bit := range []int{0, 12, 13, 30, 31} {
			m := booted(t, c)
			w, _ := m.Read(at)
			finds(t, c, with(t, m, word{at, w ^ 1<<bit}), api.Problem{Kind: api.ProblemTable, Index: p, At: at})
		}
	}
}

// P28.1: what programs and registers are may be anything, and so may the words of nobody.
func TestAnyWords(t *testing.T) {
	c := wide(t)
	m := booted(t, c)
	many := 0
	for at := range c.Frames * api.FrameWords {
		switch o, _ := layout.Owner(c, at); o.Kind {
		case api.OwnNobody, api.OwnRegion, api.OwnSave:
			with(t, m, word{at, 0xdeadbeef})
			many++
		}
	}
	if many < 150 {
		t.Errorf("only %d words may be anything", many)
	}
	finds(t, c, m)
}

// P28.1: all problems of a memory of which everything is wrong, in their order.
func TestOrder(t *testing.T) {
	c := wide(t)
	m, _ := mem.New(c.Frames)
	m.Fill(320, 16*c.Frames-320, 0xffff0000) // behind the tables, too
	// A lock whose words are alike has no ticket out: so the first ones differ.
	for _, at := range []int{322, 346, 370, 394, 418} {
		with(t, m, word{at, 5})
	}
	want := []api.Problem{{Kind: api.ProblemBarrier, Index: -1, At: 320}}
	for p := range 3 {
		want = append(want,
			api.Problem{Kind: api.ProblemLock, Index: p, At: 322 + 24*p},
			api.Problem{Kind: api.ProblemState, Index: p, At: 341 + 24*p})
	}
	want = append(want,
		api.Problem{Kind: api.ProblemLock, Index: 16, At: 394},
		api.Problem{Kind: api.ProblemStage, Index: 0, At: 396},
		api.Problem{Kind: api.ProblemPort, Index: 0, At: 406},
		api.Problem{Kind: api.ProblemLock, Index: 17, At: 418},
		api.Problem{Kind: api.ProblemStage, Index: 1, At: 420})
	for _, at := range []int{425, 431, 437, 443} {
		want = append(want, api.Problem{Kind: api.ProblemPort, Index: 1, At: at})
	}
	for p, frames := range [][2]int{{29, 31}, {31, 34}, {34, 37}} {
		for at := 16 * frames[0]; at < 16*frames[1]; at++ {
			want = append(want, api.Problem{Kind: api.ProblemTable, Index: p, At: at})
		}
	}
	finds(t, c, m, want...)
}

// P28.1: as many problems as the greatest configurations can have: the numbers of sixteen channels' locks, of eight partitions, of four cores.
func TestGreatest(t *testing.T) {
	c := greatest(t)
	l, _ := layout.Of(c)
	m := booted(t, c)
	finds(t, c, with(t, m, word{l.Barrier, 4}))
	var want []api.Problem
	for p, place := range l.Partitions {
		with(t, m, word{place.Lock, 2})
		want = append(want, api.Problem{Kind: api.ProblemLock, Index: p, At: place.Lock})
	}
	for n, place := range l.Channels {
		with(t, m, word{place.Lock, 4 + uint32(n%2)})
		if n%2 == 1 {
			want = append(want, api.Problem{Kind: api.ProblemLock, Index: 16 + n, At: place.Lock})
		}
	}
	for p, place := range l.Partitions {
		last := 16*place.Tables[len(place.Tables)-1] + 15
		with(t, m, word{last, 1})
		want = append(want, api.Problem{Kind: api.ProblemTable, Index: p, At: last})
	}
	finds(t, c, m, want...)
}

// greatest is a configuration with as many partitions, channels, ports, tables and cores as may be.
func greatest(t *testing.T) api.Config {
	t.Helper()
	c := api.Config{Frames: api.MaxFrames, Major: 183, Kernel: 0, Cores: make([][]api.Window, api.MaxCores)}
	for core := range c.Cores {
		c.Cores[core] = []api.Window{{Partition: core, Usable: 101, Slack: 82}}
	}
	for p := range api.MaxPartitions {
		x := api.Partition{Name: string(rune('a' + p)), Restarts: p}
		for i := range 8 {
			x.Regions = append(x.Regions, api.Region{Page: 32*i + 14, Pages: 3, Frame: 500 + 60*p + 3*i, Rights: 7})
		}
		x.Entry = 14 * 16
		x.Regions[7].Pages = 2
		c.Partitions = append(c.Partitions, x)
	}
	for n := range api.MaxChannels {
		c.Channels = append(c.Channels, api.Channel{Kind: api.KindQueuing, Words: 16, Depth: 8})
		from, to := &c.Partitions[n%8], &c.Partitions[(n+3)%8]
		from.Ports = append(from.Ports, api.Port{Channel: n, Source: true})
		to.Ports = append(to.Ports, api.Port{Channel: n})
	}
	need, e := layout.Need(c)
	if e != api.OK {
		t.Fatalf("Need: error %d", e)
	}
	c.Room = need
	return c
}
