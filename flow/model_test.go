package flow_test

import (
	"math/rand/v2"
	"slices"
	"testing"

	"bulkhead/api"
	"bulkhead/flow"
)

// model reckons by the words of the document alone: it asks of each two ports, and of each row of partitions, whether it is what is meant.
type model struct {
	n    int
	edge [8][8]bool
}

func modelOf(c api.Config) *model {
	m := &model{n: len(c.Partitions)}
	for ch := range c.Channels {
		for p, a := range c.Partitions {
			for q, b := range c.Partitions {
				for _, s := range a.Ports {
					for _, d := range b.Ports {
						if s.Channel == ch && d.Channel == ch && s.Source && !d.Source {
							m.edge[p][q] = true
						}
					}
				}
			}
		}
	}
	return m
}

func (m *model) edges() (l []api.Edge) {
	for p := range m.n {
		for q := range m.n {
			if m.edge[p][q] {
				l = append(l, api.Edge{From: p, To: q})
			}
		}
	}
	return l
}

// way looks through all rows of k partitions in the order in which the lesser at the first difference comes first, k rising.
func (m *model) way(from, to int) []int {
	for k := 2; k <= m.n+1; k++ {
		if w := m.extend([]int{from}, to, k); w != nil {
			return w
		}
	}
	return nil
}

// extend tells the first row of k partitions that begins so and ends there. No partition stands twice but at the two ends: such a row could be shorter.
func (m *model) extend(begun []int, to, k int) []int {
	last := begun[len(begun)-1]
	if len(begun) == k-1 {
		if m.edge[last][to] {
			return append(slices.Clone(begun), to)
		}
		return nil
	}
	for q := range m.n {
		if m.edge[last][q] && !slices.Contains(begun, q) {
			if w := m.extend(append(slices.Clone(begun), q), to, k); w != nil {
				return w
			}
		}
	}
	return nil
}

func (m *model) reaches(p, q int) bool { return m.way(p, q) != nil }

// rings looks through all sets of partitions for those that are rings, and have no greater one.
func (m *model) rings() (rings [][]int) {
	var reach [8]int
	for p := range m.n {
		for q := range m.n {
			if m.reaches(p, q) {
				reach[p] |= 1 << q
			}
		}
	}
	var sets []int
	for set := 1; set < 1<<m.n; set++ {
		all := true
		for p := range m.n {
			all = all && (set>>p&1 == 0 || reach[p]&set == set)
		}
		if all {
			sets = append(sets, set)
		}
	}
	for _, set := range sets {
		if slices.ContainsFunc(sets, func(s int) bool { return s != set && s&set == set }) {
			continue
		}
		var ring []int
		for p := range m.n {
			if set>>p&1 == 1 {
				ring = append(ring, p)
			}
		}
		rings = append(rings, ring)
	}
	slices.SortFunc(rings, func(a, b []int) int { return a[0] - b[0] })
	return rings
}

// chance is a configuration with ports of all kinds: also of channels that are not there, and several of one channel.
func chance(r *rand.Rand) api.Config {
	c := made(r.IntN(9), r.IntN(12))
	most := 1 + r.IntN(8)
	send := 1 + r.IntN(3)
	for p := range c.Partitions {
		for range r.IntN(most + 1) {
			c.Partitions[p].Ports = append(c.Partitions[p].Ports, api.Port{Channel: r.IntN(len(c.Channels)+3) - 1, Source: r.IntN(4) < send})
		}
	}
	return c
}

// P13.1 to P13.4: all calls against the words of the document.
func TestModel(t *testing.T) {
	r := rand.New(rand.NewPCG(13, 1))
	for range 1500 {
		c := chance(r)
		m := modelOf(c)
		wantEdges(t, "model", c, m.edges()...)
		wantRings(t, c, m.rings()...)
		rows := flow.Reaches(c)
		if len(rows) != m.n {
			t.Fatalf("Reaches: %d rows of %d", len(rows), m.n)
		}
		for p := range m.n {
			var into []int
			for q := range m.n {
				if m.reaches(q, p) || q == p {
					into = append(into, q)
				}
				way, e := m.way(p, q), api.OK
				if way == nil {
					e = api.ErrFlowNone
				}
				wantWay(t, c, p, q, e, way...)
				if len(rows[p]) != m.n || rows[p][q] != (way != nil) {
					t.Errorf("Reaches: row %d, %d: %v", p, q, rows[p])
				}
			}
			if got, e := flow.Into(c, p); e != api.OK || !slices.Equal(got, into) {
				t.Errorf("Into(%d): %v, error %d, not %v", p, got, e, into)
			}
		}
		if t.Failed() {
			t.Fatalf("%+v", c)
		}
	}
}

// P13.6: what follows from the calls' answers alone.
func TestWhatFollows(t *testing.T) {
	r := rand.New(rand.NewPCG(13, 6))
	for range 1500 {
		c := chance(r)
		edges, rows, rings := flow.Edges(c), flow.Reaches(c), flow.Rings(c)
		place := ringOf(rings)
		for p := range rows {
			into, _ := flow.Into(c, p)
			for q := range rows {
				is := slices.ContainsFunc(edges, func(e api.Edge) bool {
					return e.From == p && (e.To == q || rows[e.To][q])
				})
				if rows[p][q] != is {
					t.Errorf("from %d to %d: %v, and by the edges %v", p, q, rows[p][q], is)
				}
				if together := place[p] > 0 && place[p] == place[q]; together != (rows[p][q] && rows[q][p]) {
					t.Errorf("%d and %d in one ring: %v", p, q, together)
				}
				if slices.Contains(into, q) != (q == p || rows[q][p]) {
					t.Errorf("Into(%d): %v", p, into)
				}
				followWay(t, c, edges, p, q, rows[p][q])
			}
		}
		if t.Failed() {
			t.Fatalf("%+v", c)
		}
	}
}

// ringOf tells of each partition the number of its ring, from 1 on, and 0, if it is in none.
func ringOf(rings [][]int) (place [8]int) {
	for i, ring := range rings {
		for _, p := range ring {
			place[p] = i + 1
		}
	}
	return place
}

// followWay goes along a way, edge by edge.
func followWay(t *testing.T, c api.Config, edges []api.Edge, from, to int, is bool) {
	way, e := flow.Way(c, from, to)
	if (e == api.OK) != is {
		t.Errorf("Way(%d, %d): %v, error %d, though a way is there: %v", from, to, way, e, is)
	}
	if e != api.OK {
		return
	}
	if len(way) < 2 || way[0] != from || way[len(way)-1] != to {
		t.Fatalf("Way(%d, %d): %v", from, to, way)
	}
	for i := 1; i < len(way); i++ {
		if !slices.Contains(edges, api.Edge{From: way[i-1], To: way[i]}) {
			t.Errorf("Way(%d, %d): %v: no edge at %d", from, to, way, i)
		}
		if slices.Contains(way[1:i], way[i]) || way[i] == from && i < len(way)-1 {
			t.Errorf("Way(%d, %d): %v: one twice", from, to, way)
		}
	}
}

// R6: the same answer each time, though the edges are gathered in a map.
func TestSameAgain(t *testing.T) {
	r := rand.New(rand.NewPCG(13, 9))
	for range 40 {
		c := chance(r)
		want := flow.Edges(c)
		for range 20 {
			wantEdges(t, "again", c, want...)
		}
	}
}
