package layout_test

import (
	"math/rand/v2"
	"testing"

	"bulkhead/api"
	"bulkhead/layout"
)

// model is the kernel's area written out word by word: of each word of it whose it is.
type model struct {
	c      api.Config
	words  []api.Owner
	layout api.Layout
}

// put writes a word for each of the names, and tells the number of the first one.
func (m *model) put(o api.Owner, names ...string) int {
	first := 16*m.c.Kernel + len(m.words)
	for range names {
		m.words = append(m.words, o)
	}
	return first
}

// message writes the names of a place of a message: its length, its words.
func message(names []string, h api.Channel) []string {
	names = append(names, "length")
	for range h.Words {
		names = append(names, "word")
	}
	return names
}

// stageNames and portNames: the words of DOC.md's table of stages and ports, one by one.
func stageNames(h api.Channel) []string {
	if h.Kind == api.KindSampling {
		return message([]string{"there"}, h)
	}
	names := []string{"how many"}
	for range h.Depth {
		names = message(names, h)
	}
	return names
}

func portNames(h api.Channel) []string {
	if h.Kind == api.KindSampling {
		return message([]string{"there", "fresh"}, h)
	}
	names := []string{"first", "how many", "lost"}
	for range h.Depth {
		names = message(names, h)
	}
	return names
}

// modelOf lays a configuration out that can be laid out.
func modelOf(c api.Config) *model {
	m := &model{c: c}
	l := &m.layout
	l.Barrier = m.put(api.Owner{Kind: api.OwnBarrier}, "how many", "epoch")
	for p := range c.Partitions {
		l.Partitions = append(l.Partitions, api.PartitionPlace{
			Lock:  m.put(api.Owner{Kind: api.OwnLock, Index: p}, "next", "turn"),
			Save:  m.put(api.Owner{Kind: api.OwnSave, Index: p}, "0", "1", "2", "3", "4", "5", "6", "7", "8", "9", "10", "11", "12", "13", "14", "15", "PC"),
			State: m.put(api.Owner{Kind: api.OwnState, Index: p}, "state", "restarts", "trap", "PC", "told"),
		})
	}
	for n, h := range c.Channels {
		place := api.ChannelPlace{
			Lock:  m.put(api.Owner{Kind: api.OwnChannel, Index: n}, "next", "turn"),
			Stage: m.put(api.Owner{Kind: api.OwnStage, Index: n}, stageNames(h)...),
		}
		for p := range c.Partitions {
			for q, port := range c.Partitions[p].Ports {
				if port == (api.Port{Channel: n, Source: true}) {
					place.Partition, place.Port = p, q
				}
				if port == (api.Port{Channel: n}) {
					at := m.put(api.Owner{Kind: api.OwnPort, Index: p, Port: q}, portNames(h)...)
					place.Dests = append(place.Dests, api.DestPlace{Partition: p, Port: q, At: at})
				}
			}
		}
		l.Channels = append(l.Channels, place)
	}
	for len(m.words)%16 != 0 {
		m.put(api.Owner{}, "nobody's")
	}
	for p := range c.Partitions {
		l.Partitions[p].Root = m.frame(p)
		last := -1
		for page := range 256 {
			if m.isThere(p, page) && page/16 != last {
				last = page / 16
				l.Partitions[p].Tables = append(l.Partitions[p].Tables, m.frame(p))
			}
		}
	}
	l.End = c.Kernel + len(m.words)/16
	return m
}

// frame writes a frame of a partition's tables, and tells its number.
func (m *model) frame(p int) int {
	return m.put(api.Owner{Kind: api.OwnTable, Index: p}, make([]string, 16)...) / 16
}

// isThere goes through each page of each region of a partition.
func (m *model) isThere(p, page int) bool {
	for _, r := range m.c.Partitions[p].Regions {
		for i := range r.Pages {
			if r.Page+i == page {
				return true
			}
		}
	}
	return false
}

// owner tells whose a word is, of a memory that has it.
func (m *model) owner(at int) api.Owner {
	if i := at - 16*m.c.Kernel; i >= 0 && i < len(m.words) && m.words[i] != (api.Owner{}) {
		return m.words[i]
	}
	for p := range m.c.Partitions {
		for _, r := range m.c.Partitions[p].Regions {
			for i := range r.Pages {
				if r.Frame >= 0 && r.Frame+i == at/16 {
					return api.Owner{Kind: api.OwnRegion, Index: p}
				}
			}
		}
	}
	return api.Owner{}
}

// chance is a configuration that can be laid out.
func chance(r *rand.Rand) api.Config {
	c := api.Config{Frames: 1 + r.IntN(400), Kernel: r.IntN(100), Partitions: make([]api.Partition, r.IntN(9))}
	for p := range c.Partitions {
		for range r.IntN(9) {
			g := api.Region{Page: r.IntN(256), Frame: r.IntN(300) - 5}
			g.Pages = 1 + r.IntN(min(256-g.Page, 1+r.IntN(40)))
			c.Partitions[p].Regions = append(c.Partitions[p].Regions, g)
		}
	}
	for n := range r.IntN(17) {
		if !join(r, &c, n) {
			break
		}
	}
	return c
}

// join adds a channel with its ports, if there is room for them.
func join(r *rand.Rand, c *api.Config, n int) bool {
	var free []int
	for p := range c.Partitions {
		for range api.MaxPorts - len(c.Partitions[p].Ports) {
			free = append(free, p)
		}
	}
	if len(free) < 5 {
		return false
	}
	h := api.Channel{Kind: api.KindSampling, Words: 1 + r.IntN(16)}
	if r.IntN(2) == 0 {
		h.Kind, h.Depth = api.KindQueuing, 1+r.IntN(8)
	}
	c.Channels = append(c.Channels, h)
	r.Shuffle(len(free), func(i, j int) { free[i], free[j] = free[j], free[i] })
	ends := 2 + r.IntN(4)
	source := r.IntN(ends)
	for i, p := range free[:ends] {
		c.Partitions[p].Ports = append(c.Partitions[p].Ports, api.Port{Channel: n, Source: i == source})
	}
	return true
}

// P15.1, P15.2, P15.4: all calls against the area written out word by word.
func TestModel(t *testing.T) {
	r := rand.New(rand.NewPCG(15, 1))
	for range 200 {
		c := chance(r)
		m := modelOf(c)
		wantOf(t, "model", c, m.layout)
		for at := -16; at < 16*c.Frames+16; at++ {
			want, wantErr := api.Owner{}, api.ErrLayoutAt
			if at >= 0 && at < 16*c.Frames {
				want, wantErr = m.owner(at), api.OK
			}
			if got, e := layout.Owner(c, at); got != want || e != wantErr {
				t.Errorf("Owner(%d) = %v, %d, want %v, %d", at, got, e, want, wantErr)
				break
			}
		}
		if t.Failed() {
			t.Fatalf("%+v", c)
		}
	}
}

// piece is an item of a layout: where it begins, where it ends.
type piece struct {
	whose    api.Owner
	from, to int
}

// pieces lists all that a layout tells, in the order told.
func pieces(c api.Config, l api.Layout) []piece {
	list := []piece{{api.Owner{Kind: api.OwnBarrier}, l.Barrier, l.Barrier + 2}}
	for p, place := range l.Partitions {
		list = append(list,
			piece{api.Owner{Kind: api.OwnLock, Index: p}, place.Lock, place.Lock + 2},
			piece{api.Owner{Kind: api.OwnSave, Index: p}, place.Save, place.Save + 17},
			piece{api.Owner{Kind: api.OwnState, Index: p}, place.State, place.State + 5})
	}
	for n, place := range l.Channels {
		list = append(list,
			piece{api.Owner{Kind: api.OwnChannel, Index: n}, place.Lock, place.Lock + 2},
			piece{api.Owner{Kind: api.OwnStage, Index: n}, place.Stage, place.Stage + layout.Stage(c.Channels[n])})
		for _, d := range place.Dests {
			list = append(list, piece{api.Owner{Kind: api.OwnPort, Index: d.Partition, Port: d.Port}, d.At, d.At + layout.Port(c.Channels[n])})
		}
	}
	for p, place := range l.Partitions {
		for _, frame := range append([]int{place.Root}, place.Tables...) {
			list = append(list, piece{api.Owner{Kind: api.OwnTable, Index: p}, 16 * frame, 16*frame + 16})
		}
	}
	return list
}

// P15.5: all lies apart, in the order told, from the area's beginning to its end, with less than a frame between.
func TestApart(t *testing.T) {
	r := rand.New(rand.NewPCG(15, 5))
	for range 1000 {
		c := chance(r)
		l, e := layout.Of(c)
		at, between := 16*c.Kernel, 0
		for _, x := range pieces(c, l) {
			if x.from < at || x.to <= x.from {
				t.Errorf("%v lies from %d to %d, the one ahead of it ends at %d", x.whose, x.from, x.to, at)
			}
			between += x.from - at
			at = x.to
		}
		between += 16*l.End - at
		if e != api.OK || between < 0 || between >= 16 {
			t.Errorf("Of = %+v, %d: %d words between", l, e, between)
		}
		if t.Failed() {
			t.Fatalf("%+v", c)
		}
	}
}

// P15.6: Owner tells of each item just as many words as it has, and just where Of says.
func TestAllFound(t *testing.T) {
	r := rand.New(rand.NewPCG(15, 6))
	for range 200 {
		c := chance(r)
		l, _ := layout.Of(c)
		c.Frames = l.End + r.IntN(5)
		counted := map[api.Owner]int{}
		for at := range 16 * c.Frames {
			o, e := layout.Owner(c, at)
			if e != api.OK {
				t.Fatalf("Owner(%d): %d", at, e)
			}
			if o.Kind != api.OwnNobody && o.Kind != api.OwnRegion {
				counted[o]++
			}
		}
		for _, x := range pieces(c, l) {
			counted[x.whose] -= x.to - x.from
			for _, at := range []int{x.from, x.to - 1} {
				wantOwner(t, c, at, x.whose, api.OK)
			}
		}
		for o, n := range counted {
			if n != 0 {
				t.Errorf("Owner tells %d words too many of %v", n, o)
			}
		}
		if t.Failed() {
			t.Fatalf("%+v", c)
		}
	}
}

// further is the layout with everything one frame further on.
func further(l api.Layout) api.Layout {
	l.Barrier += 16
	l.End++
	for i := range l.Partitions {
		p := &l.Partitions[i]
		p.Lock, p.Save, p.State, p.Root = p.Lock+16, p.Save+16, p.State+16, p.Root+1
		for j := range p.Tables {
			p.Tables[j]++
		}
	}
	for i := range l.Channels {
		h := &l.Channels[i]
		h.Lock, h.Stage = h.Lock+16, h.Stage+16
		for j := range h.Dests {
			h.Dests[j].At += 16
		}
	}
	return l
}

// P15.7: with Kernel one greater all lies one frame further on; frames and rights of regions, and what else is layer 16's, move nothing.
func TestFurther(t *testing.T) {
	r := rand.New(rand.NewPCG(15, 7))
	for range 300 {
		c := chance(r)
		l, _ := layout.Of(c)
		other := c
		other.Frames, other.Major, other.Room = r.Int(), -r.Int(), r.Int()
		other.Cores = make([][]api.Window, r.IntN(9))
		other.Partitions = make([]api.Partition, len(c.Partitions))
		for p := range other.Partitions {
			other.Partitions[p].Ports = c.Partitions[p].Ports
			other.Partitions[p].Entry, other.Partitions[p].Action = r.Int(), -r.Int()
			for _, g := range c.Partitions[p].Regions {
				g.Frame, g.Rights = -r.Int(), r.Int()
				other.Partitions[p].Regions = append(other.Partitions[p].Regions, g)
			}
		}
		wantOf(t, "what is not asked", other, l)
		c.Kernel++
		wantOf(t, "one frame further on", c, further(l))
		if t.Failed() {
			t.Fatalf("%+v", c)
		}
	}
}
