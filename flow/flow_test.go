package flow_test

import (
	"math"
	"reflect"
	"slices"
	"testing"

	"bulkhead/api"
	"bulkhead/flow"
)

// end is a port in short: whose it is, of which channel, and whether it sends.
type end struct {
	partition, channel int
	source             bool
}

const (
	sends    = true
	receives = false
)

// made is a configuration of so many partitions and channels, with these ports.
func made(partitions, channels int, ends ...end) api.Config {
	c := api.Config{Partitions: make([]api.Partition, partitions), Channels: make([]api.Channel, channels)}
	for _, x := range ends {
		p := &c.Partitions[x.partition]
		p.Ports = append(p.Ports, api.Port{Channel: x.channel, Source: x.source})
	}
	return c
}

// graph is a configuration with just these edges: of each partition that an edge leads from, one channel with its number.
func graph(partitions int, edges ...api.Edge) api.Config {
	c := made(partitions, partitions)
	for p := range partitions {
		if slices.ContainsFunc(edges, func(e api.Edge) bool { return e.From == p }) {
			c.Partitions[p].Ports = append(c.Partitions[p].Ports, api.Port{Channel: p, Source: sends})
		}
	}
	for _, e := range edges {
		c.Partitions[e.To].Ports = append(c.Partitions[e.To].Ports, api.Port{Channel: e.From})
	}
	return c
}

// example is the configuration of the document's examples.
func example() api.Config {
	return made(5, 4,
		end{0, 0, sends}, end{1, 0, receives}, end{2, 0, receives},
		end{1, 1, sends}, end{3, 1, receives},
		end{2, 2, sends}, end{3, 2, receives},
		end{3, 3, sends}, end{1, 3, receives}, end{3, 3, receives},
		end{4, 9, sends})
}

// wides are configurations that are just too wide, each with an edge if it were not.
func wides() map[string]api.Config {
	nine := graph(9, api.Edge{From: 0, To: 1}, api.Edge{From: 1, To: 0})
	ports := graph(8, api.Edge{From: 0, To: 1}, api.Edge{From: 1, To: 0})
	last := &ports.Partitions[7]
	last.Ports = append(last.Ports, make([]api.Port, 9)...)
	first := graph(2, api.Edge{From: 0, To: 0})
	for len(first.Partitions[0].Ports) < 9 {
		first.Partitions[0].Ports = append(first.Partitions[0].Ports, api.Port{Channel: -1})
	}
	return map[string]api.Config{"nine partitions": nine, "nine ports of the last one": ports, "nine ports of the first one": first}
}

// numbers tells at which places of a row it is true.
func numbers(row []bool) (l []int) {
	for i, is := range row {
		if is {
			l = append(l, i)
		}
	}
	return l
}

func wantEdges(t *testing.T, name string, c api.Config, want ...api.Edge) {
	t.Helper()
	if got := flow.Edges(c); !slices.Equal(got, want) {
		t.Errorf("%s: Edges: %v, not %v", name, got, want)
	}
}

func wantWay(t *testing.T, c api.Config, from, to int, e api.Errno, want ...int) {
	t.Helper()
	if got, was := flow.Way(c, from, to); was != e || !slices.Equal(got, want) {
		t.Errorf("Way(%d, %d): %v, error %d, not %v, error %d", from, to, got, was, want, e)
	}
}

func wantRings(t *testing.T, c api.Config, want ...[]int) {
	t.Helper()
	if got := flow.Rings(c); !slices.EqualFunc(got, want, slices.Equal) {
		t.Errorf("Rings: %v, not %v", got, want)
	}
}

// The errors' numbers and the limits, as the document prints them.
func TestNumbers(t *testing.T) {
	for _, x := range []struct{ got, want int }{
		{int(api.ErrFlowPartition), 130}, {int(api.ErrFlowNone), 131}, {int(api.ErrArg), 1},
		{api.MaxPartitions, 8}, {api.MaxPorts, 8},
	} {
		if x.got != x.want {
			t.Errorf("%d, not %d", x.got, x.want)
		}
	}
}

// The section 'Examples', row by row.
func TestExamples(t *testing.T) {
	c := example()
	wantEdges(t, "the example", c, api.Edge{From: 0, To: 1}, api.Edge{From: 0, To: 2}, api.Edge{From: 1, To: 3}, api.Edge{From: 2, To: 3}, api.Edge{From: 3, To: 1}, api.Edge{From: 3, To: 3})

	rows := flow.Reaches(c)
	if len(rows) != 5 {
		t.Fatalf("Reaches: %d rows", len(rows))
	}
	for p, want := range map[int][]int{0: {1, 2, 3}, 3: {1, 3}, 4: nil} {
		if got := numbers(rows[p]); len(rows[p]) != 5 || !slices.Equal(got, want) {
			t.Errorf("Reaches, row %d: %v of %d, not %v of 5", p, got, len(rows[p]), want)
		}
	}

	for p, want := range map[int][]int{3: {0, 1, 2, 3}, 0: {0}} {
		if got, e := flow.Into(c, p); e != api.OK || !slices.Equal(got, want) {
			t.Errorf("Into(%d): %v, error %d, not %v", p, got, e, want)
		}
	}
	if got, e := flow.Into(c, 5); e != api.ErrFlowPartition || len(got) != 0 {
		t.Errorf("Into(5): %v, error %d", got, e)
	}

	wantWay(t, c, 0, 3, api.OK, 0, 1, 3)
	wantWay(t, c, 1, 1, api.OK, 1, 3, 1)
	wantWay(t, c, 3, 3, api.OK, 3, 3)
	wantWay(t, c, 0, 0, api.ErrFlowNone)
	wantWay(t, c, 4, 9, api.ErrFlowPartition)

	wantRings(t, c, []int{1, 3})
}

// P13.1: which ports make an edge.
func TestEdges(t *testing.T) {
	for _, x := range []struct {
		name string
		c    api.Config
		want []api.Edge
	}{
		{"one that sends, nobody who receives", made(2, 1, end{0, 0, sends}), nil},
		{"one that receives, nobody who sends", made(2, 1, end{0, 0, receives}), nil},
		{"two that send", made(2, 1, end{0, 0, sends}, end{1, 0, sends}), nil},
		{"two that receive", made(2, 1, end{0, 0, receives}, end{1, 0, receives}), nil},
		{"two channels", made(2, 2, end{0, 0, sends}, end{1, 1, receives}), nil},
		{"from the greater to the lesser", made(2, 1, end{0, 0, receives}, end{1, 0, sends}), []api.Edge{{From: 1, To: 0}}},
		{"to itself", made(1, 1, end{0, 0, sends}, end{0, 0, receives}), []api.Edge{{From: 0, To: 0}}},
		{"to itself, the other port first", made(1, 1, end{0, 0, receives}, end{0, 0, sends}), []api.Edge{{From: 0, To: 0}}},
		{"several sources", made(3, 1, end{2, 0, sends}, end{0, 0, sends}, end{1, 0, receives}), []api.Edge{{From: 0, To: 1}, {From: 2, To: 1}}},
		{"once by two channels", made(2, 2, end{0, 0, sends}, end{0, 1, sends}, end{1, 1, receives}, end{1, 0, receives}), []api.Edge{{From: 0, To: 1}}},
		{"once by two ports that send", made(2, 1, end{0, 0, sends}, end{0, 0, sends}, end{1, 0, receives}), []api.Edge{{From: 0, To: 1}}},
		{"once by two ports that receive", made(2, 1, end{0, 0, sends}, end{1, 0, receives}, end{1, 0, receives}), []api.Edge{{From: 0, To: 1}}},
		{"by the last channel", made(2, 3, end{0, 2, sends}, end{1, 2, receives}), []api.Edge{{From: 0, To: 1}}},
		{"by the channel behind the last", made(2, 3, end{0, 3, sends}, end{1, 3, receives}), nil},
		{"by the channel -1", made(2, 3, end{0, -1, sends}, end{1, -1, receives}), nil},
		{"by the greatest number", made(2, 3, end{0, math.MaxInt, sends}, end{1, math.MaxInt, receives}), nil},
		{"by the least number", made(2, 3, end{0, math.MinInt, sends}, end{1, math.MinInt, receives}), nil},
		{"without channels", made(2, 0, end{0, 0, sends}, end{1, 0, receives}), nil},
		{"more channels than are admitted", made(2, 40, end{0, 39, sends}, end{1, 39, receives}), []api.Edge{{From: 0, To: 1}}},
		{"behind a port that is left out", made(2, 1, end{0, 7, sends}, end{0, 0, sends}, end{1, -3, receives}, end{1, 0, receives}), []api.Edge{{From: 0, To: 1}}},
		{"sorted", made(3, 3, end{2, 0, sends}, end{2, 0, receives}, end{1, 0, receives}, end{0, 0, receives}, end{1, 1, sends}, end{2, 1, receives}, end{0, 1, receives}, end{0, 2, sends}, end{2, 2, receives}),
			[]api.Edge{{From: 0, To: 2}, {From: 1, To: 0}, {From: 1, To: 2}, {From: 2, To: 0}, {From: 2, To: 1}, {From: 2, To: 2}}},
	} {
		wantEdges(t, x.name, x.c, x.want...)
	}
}

// P13.1: what else a configuration says makes no edge, and takes none away.
func TestOnlyPortsCount(t *testing.T) {
	c := example()
	c.Frames, c.Major, c.Kernel, c.Room = -1, math.MaxInt, -5, math.MinInt
	c.Cores = [][]api.Window{{{Partition: 77}}, nil}
	for i := range c.Channels {
		c.Channels[i] = api.Channel{Kind: 9, Words: -4, Depth: 1 << 40}
	}
	for i := range c.Partitions {
		c.Partitions[i].Name = "\xff"
		c.Partitions[i].Regions = make([]api.Region, 40)
	}
	if got, want := flow.Edges(c), flow.Edges(example()); !slices.Equal(got, want) {
		t.Errorf("Edges: %v, not %v", got, want)
	}
}

// P13.1: a way may be as long as there are partitions, and goes one way only.
func TestReaches(t *testing.T) {
	var line []api.Edge
	for p := 7; p > 0; p-- {
		line = append(line, api.Edge{From: p, To: p - 1})
	}
	for _, up := range []bool{false, true} {
		if up {
			for i, e := range line {
				line[i] = api.Edge{From: e.To, To: e.From}
			}
		}
		for p, row := range flow.Reaches(graph(8, line...)) {
			for q, is := range row {
				if want := q < p && !up || q > p && up; is != want {
					t.Errorf("up %v: from %d to %d: %v", up, p, q, is)
				}
			}
		}
	}
	// Nobody reaches itself, but by an edge or a round.
	for p, row := range flow.Reaches(graph(3, api.Edge{From: 0, To: 0}, api.Edge{From: 0, To: 1})) {
		if row[p] != (p == 0) {
			t.Errorf("%d reaches itself: %v", p, row[p])
		}
	}
}

// P13.1: a row for each partition, also where there are no edges.
func TestReachesOfNoEdges(t *testing.T) {
	for n := 1; n <= 8; n++ {
		rows := flow.Reaches(made(n, 0))
		if len(rows) != n {
			t.Fatalf("%d partitions: %d rows", n, len(rows))
		}
		for _, row := range rows {
			if len(row) != n || len(numbers(row)) != 0 {
				t.Errorf("%d partitions: row %v", n, row)
			}
		}
	}
}

// P13.2: p is told also where no way leads to it, and once where one does.
func TestInto(t *testing.T) {
	c := graph(8, api.Edge{From: 7, To: 6}, api.Edge{From: 6, To: 3}, api.Edge{From: 3, To: 6}, api.Edge{From: 0, To: 0}, api.Edge{From: 3, To: 5}, api.Edge{From: 1, To: 5})
	for p, want := range [][]int{{0}, {1}, {2}, {3, 6, 7}, {4}, {1, 3, 5, 6, 7}, {3, 6, 7}, {7}} {
		if got, e := flow.Into(c, p); e != api.OK || !slices.Equal(got, want) {
			t.Errorf("Into(%d): %v, error %d, not %v", p, got, e, want)
		}
	}
}

// P13.2: what is no partition.
func TestIntoErrors(t *testing.T) {
	for _, p := range []int{-1, 5, 8, math.MaxInt, math.MinInt} {
		if got, e := flow.Into(example(), p); e != api.ErrFlowPartition || len(got) != 0 {
			t.Errorf("Into(%d): %v, error %d", p, got, e)
		}
	}
	for name, c := range wides() {
		for _, p := range []int{0, 1, -1, 8, 9} {
			if got, e := flow.Into(c, p); e != api.ErrArg || len(got) != 0 {
				t.Errorf("%s: Into(%d): %v, error %d", name, p, got, e)
			}
		}
	}
}

// P13.3: the shortest way, and of several the least at the first place at which they differ.
func TestWay(t *testing.T) {
	// Of 0 3 6 and 0 2 6 and 0 1 5 6 the second one; 0 1 5 6 is longer.
	c := graph(7, api.Edge{From: 0, To: 1}, api.Edge{From: 1, To: 5}, api.Edge{From: 5, To: 6}, api.Edge{From: 0, To: 3}, api.Edge{From: 3, To: 6}, api.Edge{From: 0, To: 2}, api.Edge{From: 2, To: 6})
	wantWay(t, c, 0, 6, api.OK, 0, 2, 6)
	wantWay(t, c, 0, 5, api.OK, 0, 1, 5)
	wantWay(t, c, 6, 0, api.ErrFlowNone)
	wantWay(t, c, 0, 4, api.ErrFlowNone)
	wantWay(t, c, 4, 4, api.ErrFlowNone)

	// 0 1 5 6 and 0 2 4 6: the first place decides, not the place before the last.
	c = graph(7, api.Edge{From: 0, To: 1}, api.Edge{From: 1, To: 5}, api.Edge{From: 5, To: 6}, api.Edge{From: 0, To: 2}, api.Edge{From: 2, To: 4}, api.Edge{From: 4, To: 6})
	wantWay(t, c, 0, 6, api.OK, 0, 1, 5, 6)

	// 7 3 2 0 and 7 3 1 0 differ at the third place.
	c = graph(8, api.Edge{From: 7, To: 3}, api.Edge{From: 3, To: 2}, api.Edge{From: 3, To: 1}, api.Edge{From: 2, To: 0}, api.Edge{From: 1, To: 0})
	wantWay(t, c, 7, 0, api.OK, 7, 3, 1, 0)

	// Straight, though there are ways over lesser ones.
	c = graph(4, api.Edge{From: 3, To: 0}, api.Edge{From: 0, To: 2}, api.Edge{From: 3, To: 2})
	wantWay(t, c, 3, 2, api.OK, 3, 2)
}

// P13.3: a way from a partition to itself has two partitions at least.
func TestWayRound(t *testing.T) {
	c := graph(8, api.Edge{From: 0, To: 1}, api.Edge{From: 1, To: 0}, api.Edge{From: 2, To: 2}, api.Edge{From: 2, To: 0}, api.Edge{From: 1, To: 2})
	wantWay(t, c, 0, 0, api.OK, 0, 1, 0)
	wantWay(t, c, 1, 1, api.OK, 1, 0, 1)
	wantWay(t, c, 2, 2, api.OK, 2, 2)
	wantWay(t, c, 0, 2, api.OK, 0, 1, 2)
	wantWay(t, c, 2, 1, api.OK, 2, 0, 1)

	var ring []api.Edge
	for p := range 8 {
		ring = append(ring, api.Edge{From: p, To: (p + 3) % 8})
	}
	c = graph(8, ring...)
	wantWay(t, c, 0, 0, api.OK, 0, 3, 6, 1, 4, 7, 2, 5, 0)
	wantWay(t, c, 5, 2, api.OK, 5, 0, 3, 6, 1, 4, 7, 2)
}

// P13.3: the errors, in their order.
func TestWayErrors(t *testing.T) {
	for _, bad := range []int{-1, 5, 8, math.MaxInt, math.MinInt} {
		wantWay(t, example(), bad, 0, api.ErrFlowPartition)
		wantWay(t, example(), 0, bad, api.ErrFlowPartition)
		wantWay(t, example(), bad, bad, api.ErrFlowPartition)
	}
	for _, c := range wides() {
		wantWay(t, c, 0, 1, api.ErrArg)
		wantWay(t, c, 0, 0, api.ErrArg)
		wantWay(t, c, 1, 1, api.ErrArg)
		wantWay(t, c, -1, 9, api.ErrArg)
	}
}

// P13.4: each ring rising, the one with the least partition first.
func TestRings(t *testing.T) {
	wantRings(t, made(8, 3))
	wantRings(t, graph(3, api.Edge{From: 0, To: 1}, api.Edge{From: 1, To: 2}))
	wantRings(t, graph(3, api.Edge{From: 2, To: 2}, api.Edge{From: 0, To: 0}), []int{0}, []int{2})
	wantRings(t, graph(8,
		api.Edge{From: 7, To: 0}, api.Edge{From: 0, To: 4}, api.Edge{From: 4, To: 7},
		api.Edge{From: 6, To: 1}, api.Edge{From: 1, To: 6},
		api.Edge{From: 0, To: 1}, // from ring to ring, and none back
		api.Edge{From: 5, To: 5},
		api.Edge{From: 2, To: 5}, api.Edge{From: 5, To: 3}),
		[]int{0, 4, 7}, []int{1, 6}, []int{5})
	// Two rounds that meet in one partition are one ring.
	wantRings(t, graph(5, api.Edge{From: 4, To: 2}, api.Edge{From: 2, To: 4}, api.Edge{From: 2, To: 1}, api.Edge{From: 1, To: 2}), []int{1, 2, 4})
}

// P13.5: of a wide configuration, and of one without partitions, there is nothing to tell.
func TestWideAndEmpty(t *testing.T) {
	all := wides()
	all["no partitions"] = made(0, 3)
	all["the zero value"] = api.Config{}
	for name, c := range all {
		if edges, rows, rings := flow.Edges(c), flow.Reaches(c), flow.Rings(c); len(edges) != 0 || len(rows) != 0 || len(rings) != 0 {
			t.Errorf("%s: %v, %v, %v", name, edges, rows, rings)
		}
	}
	for _, c := range []api.Config{made(0, 3), {}} {
		if got, e := flow.Into(c, 0); e != api.ErrFlowPartition || len(got) != 0 {
			t.Errorf("Into without partitions: %v, error %d", got, e)
		}
		wantWay(t, c, 0, 0, api.ErrFlowPartition)
	}
}

// P13.5: eight partitions with eight ports each are not wide.
func TestNotWide(t *testing.T) {
	c := made(8, 8)
	for p := range c.Partitions {
		for ch := range 8 {
			c.Partitions[p].Ports = append(c.Partitions[p].Ports, api.Port{Channel: ch, Source: ch == p})
		}
	}
	if edges := flow.Edges(c); len(edges) != 56 {
		t.Errorf("%d edges, not 56", len(edges))
	}
	for p, row := range flow.Reaches(c) {
		if len(numbers(row)) != 8 {
			t.Errorf("row %d: %v", p, row)
		}
		if got, e := flow.Into(c, p); e != api.OK || len(got) != 8 {
			t.Errorf("Into(%d): %v, error %d", p, got, e)
		}
	}
	wantWay(t, c, 7, 7, api.OK, 7, 0, 7)
	wantRings(t, c, []int{0, 1, 2, 3, 4, 5, 6, 7})
}

// R3: nil and empty lists are the same.
func TestNilAndEmpty(t *testing.T) {
	for _, ports := range [][]api.Port{nil, {}} {
		c := api.Config{Partitions: []api.Partition{{Ports: ports}}, Channels: []api.Channel{}}
		if len(flow.Edges(c)) != 0 || len(flow.Rings(c)) != 0 || !reflect.DeepEqual(flow.Reaches(c), [][]bool{{false}}) {
			t.Error("a partition without ports tells something")
		}
	}
	c := api.Config{Partitions: []api.Partition{}}
	if len(flow.Edges(c)) != 0 || len(flow.Reaches(c)) != 0 || len(flow.Rings(c)) != 0 {
		t.Error("an empty list of partitions tells something")
	}
}

// R5: what is handed in is left as it is, with the room behind its ends.
func TestArgumentStays(t *testing.T) {
	roomy := func() api.Config {
		c := example()
		c.Partitions = append(make([]api.Partition, 0, 12), c.Partitions...)
		c.Channels = append(make([]api.Channel, 0, 20), c.Channels...)
		for i := range c.Partitions {
			c.Partitions[i].Ports = append(make([]api.Port, 0, 12), c.Partitions[i].Ports...)
		}
		return c
	}
	c := roomy()
	flow.Edges(c)
	flow.Reaches(c)
	flow.Rings(c)
	flow.Into(c, 3)
	flow.Way(c, 0, 3)
	whole := func(c api.Config) api.Config {
		c.Partitions = slices.Clone(c.Partitions[:cap(c.Partitions)])
		c.Channels = c.Channels[:cap(c.Channels)]
		for i, p := range c.Partitions {
			c.Partitions[i].Ports = p.Ports[:cap(p.Ports)]
		}
		return c
	}
	if !reflect.DeepEqual(whole(c), whole(roomy())) {
		t.Error("the configuration was changed")
	}
}

// R5: no two lists of an answer share memory, spare room too, and the next answer is none the worse.
func TestAnswersAreNew(t *testing.T) {
	c := graph(8, api.Edge{From: 0, To: 1}, api.Edge{From: 1, To: 0}, api.Edge{From: 2, To: 2}, api.Edge{From: 5, To: 3}, api.Edge{From: 3, To: 5})
	rows, rings := flow.Reaches(c), flow.Rings(c)
	for _, row := range rows {
		row = row[:cap(row)]
		for i := range row {
			row[i] = !row[i]
		}
	}
	for p, row := range flow.Reaches(c) {
		for q := range row {
			if rows[p][q] == row[q] {
				t.Errorf("row %d shares its memory", p)
			}
		}
	}
	for i, ring := range rings {
		ring = ring[:cap(ring)]
		for j := range ring {
			ring[j] = 100 + i
		}
	}
	for i, ring := range rings {
		for _, p := range ring {
			if p != 100+i {
				t.Errorf("ring %d shares its memory", i)
			}
		}
	}
	wantRings(t, c, []int{0, 1}, []int{2}, []int{3, 5})
	clear(flow.Edges(c))
	wantEdges(t, "again", c, api.Edge{From: 0, To: 1}, api.Edge{From: 1, To: 0}, api.Edge{From: 2, To: 2}, api.Edge{From: 3, To: 5}, api.Edge{From: 5, To: 3})
}
