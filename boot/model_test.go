package boot_test

import (
	"math/rand/v2"
	"slices"
	"sync"
	"testing"

	"bulkhead/admit"
	"bulkhead/api"
	"bulkhead/boot"
	"bulkhead/health"
	"bulkhead/layout"
	"bulkhead/page"
)

// drawn draws a configuration that holds together, whose regions' frames and the kernel's lie anywhere.
func drawn(t *testing.T, r *rand.Rand) api.Config {
	t.Helper()
	c := api.Config{Major: 200, Cores: [][]api.Window{{{Partition: -1, Usable: 100, Slack: 100}}}}
	n := 1 + r.IntN(api.MaxPartitions)
	for p := range n {
		c.Partitions = append(c.Partitions, drawnPartition(r, string(rune('a'+p))))
	}
	for i := range r.IntN(api.MaxPorts/2 + 1) {
		h := api.Channel{Kind: api.KindSampling, Words: 1 + r.IntN(api.MaxMessage)}
		if r.IntN(2) == 0 {
			h.Kind, h.Depth = api.KindQueuing, 1+r.IntN(api.MaxDepth)
		}
		c.Channels = append(c.Channels, h)
		for _, source := range []bool{true, false} {
			p := &c.Partitions[r.IntN(n)]
			p.Ports = append(p.Ports, api.Port{Channel: i, Source: source})
		}
	}
	deal(r, &c)
	if e, where := admit.Check(c); e != api.OK {
		t.Fatalf("%+v: error %d, %v", c, e, where)
	}
	return c
}

// drawnPartition draws one of up to 8 regions, page 0 more often than not in one of them, here and there with pages between them that are not there.
func drawnPartition(r *rand.Rand, name string) api.Partition {
	x := api.Partition{Name: name, Action: r.IntN(3), Restarts: r.IntN(16)}
	at := max(r.IntN(4)-2, 0)
	for range 1 + r.IntN(api.MaxRegions) {
		pages := 1 + r.IntN(5)
		if r.IntN(12) == 0 {
			pages = 30
		}
		if at+pages > api.Pages {
			break
		}
		x.Regions = append(x.Regions, api.Region{Page: at, Pages: pages, Rights: 1 + r.IntN(7)})
		at += pages + max(r.IntN(5)-2, 0)*r.IntN(20)
	}
	r.Shuffle(len(x.Regions), func(i, j int) { x.Regions[i], x.Regions[j] = x.Regions[j], x.Regions[i] })
	run := &x.Regions[r.IntN(len(x.Regions))]
	run.Rights |= api.RightRun
	x.Entry = run.Page*api.FrameWords + r.IntN(run.Pages*api.FrameWords)
	return x
}

// deal deals frames to all regions and to the kernel, in any order, here and there with some between.
func deal(r *rand.Rand, c *api.Config) {
	need, _ := layout.Need(*c)
	c.Room = need + r.IntN(2)
	type owner struct{ first, many *int }
	owners := []owner{{&c.Kernel, &c.Room}}
	for p := range c.Partitions {
		for i := range c.Partitions[p].Regions {
			region := &c.Partitions[p].Regions[i]
			owners = append(owners, owner{&region.Frame, &region.Pages})
		}
	}
	r.Shuffle(len(owners), func(i, j int) { owners[i], owners[j] = owners[j], owners[i] })
	for _, o := range owners {
		c.Frames += max(r.IntN(4)-2, 0)
		*o.first = c.Frames
		c.Frames += *o.many
	}
	c.Frames += r.IntN(2)
}

// pageFrames tells which frame each page of a partition is, which of them are there.
func pageFrames(x api.Partition) map[int]api.Leaf {
	leaves := map[int]api.Leaf{}
	for _, r := range x.Regions {
		for i := range r.Pages {
			leaves[r.Page+i] = api.Leaf{Page: r.Page + i, Frame: r.Frame + i, Rights: r.Rights}
		}
	}
	return leaves
}

// longest tells how many words a program of a partition can have.
func longest(x api.Partition) int {
	leaves, words := pageFrames(x), 0
	for words < 1024 {
		if _, there := leaves[words/16]; !there {
			break
		}
		words += 16
	}
	return words
}

// drawnPrograms draws programs that lie in their partitions, fewer of them than these now and then.
func drawnPrograms(r *rand.Rand, c api.Config) [][]uint32 {
	programs := make([][]uint32, r.IntN(len(c.Partitions)+1))
	for p := range programs {
		most := longest(c.Partitions[p])
		many := []int{0, most, max(most-1, 0), r.IntN(most + 1)}[r.IntN(4)]
		for range many {
			programs[p] = append(programs[p], r.Uint32())
		}
	}
	return programs
}

// programOf tells a partition's program, one of no words, if there is none.
func programOf(programs [][]uint32, p int) []uint32 {
	if p >= len(programs) {
		return nil
	}
	return programs[p]
}

// ownWords tells what the words of a partition's regions must be, by their places.
func ownWords(x api.Partition, program []uint32) map[int]uint32 {
	words := map[int]uint32{}
	for n, leaf := range pageFrames(x) {
		for i := range 16 {
			words[leaf.Frame*16+i] = 0
			if n*16+i < len(program) {
				words[leaf.Frame*16+i] = program[n*16+i]
			}
		}
	}
	return words
}

// modelBoot tells all words, one behind the other as the chapter names them.
func modelBoot(t *testing.T, c api.Config, programs [][]uint32) []uint32 {
	t.Helper()
	l, e := layout.Of(c)
	if e != api.OK {
		t.Fatalf("layout.Of: error %d", e)
	}
	words := make([]uint32, 16*c.Frames)
	for p, x := range c.Partitions {
		place := l.Partitions[p]
		tables := slices.Clone(place.Tables)
		leaves := pageFrames(x)
		for n := range 256 {
			leaf, there := leaves[n]
			if !there {
				continue
			}
			root := &words[16*place.Root+n/16]
			if *root == 0 {
				*root = 1<<31 | uint32(tables[0])<<3
				tables = tables[1:]
			}
			words[16*int(*root>>3&1023)+n%16] = 1<<31 | uint32(leaf.Frame)<<3 | uint32(leaf.Rights)
		}
		words[place.Save+16] = uint32(x.Entry)
		for at, w := range ownWords(x, programOf(programs, p)) {
			words[at] = w
		}
	}
	return words
}

// P24.1: any configurations and programs, held against a model, with all words.
func TestModelBoot(t *testing.T) {
	for seed := range uint64(400) {
		r := rand.New(rand.NewPCG(seed, 241))
		c := drawn(t, r)
		programs := drawnPrograms(r, c)
		has(t, booted(t, c, programs), modelBoot(t, c, programs))
		if t.Failed() {
			t.Fatalf("seed %d: %+v", seed, c)
		}
	}
}

// P24.1: programs of any lengths around the longest ones: the first that does not lie is told.
func TestModelRefuses(t *testing.T) {
	for seed := range uint64(300) {
		r := rand.New(rand.NewPCG(seed, 242))
		c := drawn(t, r)
		programs := make([][]uint32, r.IntN(len(c.Partitions)+1))
		at := -1
		for p := range programs {
			most := longest(c.Partitions[p])
			programs[p] = counted(1, max(most-8+r.IntN(10), 0))
			if at < 0 && len(programs[p]) > most {
				at = p
			}
		}
		if at < 0 {
			has(t, booted(t, c, programs), modelBoot(t, c, programs))
			continue
		}
		refused(t, "too long", c, programs, api.ErrBootProgram, at)
		if t.Failed() {
			t.Fatalf("seed %d: %+v", seed, c)
		}
	}
}

// P24.2: Anew of any words held against a model: p's regions as Boot lays them, no other word changed; refused, if the program is too long, and then nothing has.
func TestModelAnew(t *testing.T) {
	for seed := range uint64(300) {
		r := rand.New(rand.NewPCG(seed, 243))
		c := drawn(t, r)
		m, want := marked(t, c.Frames)
		for range 4 {
			p := r.IntN(len(c.Partitions))
			most := longest(c.Partitions[p])
			program := counted(r.Uint32(), []int{0, most, r.IntN(most + 1), most + 1 + r.IntN(20)}[r.IntN(4)])
			if len(program) > most {
				anew(t, "too long", m, c, p, program, api.ErrBootProgram)
			} else {
				anew(t, "right", m, c, p, program, api.OK)
				for at, w := range ownWords(c.Partitions[p], program) {
					want[at] = w
				}
			}
			has(t, m, want)
			if t.Failed() {
				t.Fatalf("seed %d: partition %d: %+v", seed, p, c)
			}
		}
	}
}

// P24.3: the leaves of each partition's tables are just the pages of its regions, with their frames and rights.
func TestLeaves(t *testing.T) {
	for seed := range uint64(150) {
		r := rand.New(rand.NewPCG(seed, 244))
		c := drawn(t, r)
		l, _ := layout.Of(c)
		m := booted(t, c, drawnPrograms(r, c))
		for p, x := range c.Partitions {
			left := pageFrames(x)
			for leaf := range page.Leaves(m, l.Partitions[p].Root) {
				if want, there := left[leaf.Page]; !there || leaf != want {
					t.Errorf("seed %d: partition %d: the leaf %v, want %v, %v", seed, p, leaf, want, there)
				}
				delete(left, leaf.Page)
			}
			if len(left) > 0 {
				t.Errorf("seed %d: partition %d: without the leaves %v", seed, p, left)
			}
		}
	}
}

// P24.3: a word that is neither a table's, nor a saved PC, nor a program's is 0; each partition stands as health.Begin lays it down.
func TestAllElseIsNought(t *testing.T) {
	for seed := range uint64(60) {
		r := rand.New(rand.NewPCG(seed, 245))
		c := drawn(t, r)
		l, _ := layout.Of(c)
		w, _ := health.New(c)
		m := booted(t, c, nil)
		pcs := map[int]int{}
		for p := range c.Partitions {
			pcs[l.Partitions[p].Save+api.Registers]++
			x, action, e := w.Load(m, p)
			if want := (api.Context{PC: uint32(c.Partitions[p].Entry)}); x != want || action != api.ActionHalt || e != api.OK {
				t.Errorf("seed %d: Load(%d): %v, %d, error %d", seed, p, x, action, e)
			}
			if s, e := w.Status(m, p); s != (api.Status{}) || e != api.OK {
				t.Errorf("seed %d: Status(%d): %v, error %d", seed, p, s, e)
			}
		}
		for at, word := range m.Words() {
			whose, e := layout.Owner(c, at)
			if word != 0 && (e != api.OK || whose.Kind != api.OwnTable && pcs[at] == 0) {
				t.Errorf("seed %d: the word %d of %v is %x", seed, at, whose, word)
			}
		}
	}
}

// P24.3: Boot of the same answers the same words, and Anew of p, with its program, right behind it changes nothing.
func TestAgain(t *testing.T) {
	for seed := range uint64(150) {
		r := rand.New(rand.NewPCG(seed, 246))
		c := drawn(t, r)
		programs := drawnPrograms(r, c)
		m := booted(t, c, programs)
		want := m.Words()
		has(t, booted(t, c, programs), want)
		for p := range c.Partitions {
			anew(t, "right behind Boot", m, c, p, programOf(programs, p), api.OK)
			has(t, m, want)
		}
		if t.Failed() {
			t.Fatalf("seed %d: %+v", seed, c)
		}
	}
}

// P24.3: with another program of p just words of p's regions are others.
func TestProgramsApart(t *testing.T) {
	for seed := range uint64(150) {
		r := rand.New(rand.NewPCG(seed, 247))
		c := drawn(t, r)
		programs := make([][]uint32, len(c.Partitions))
		copy(programs, drawnPrograms(r, c))
		one := booted(t, c, programs)
		p := r.IntN(len(programs))
		programs[p] = counted(r.Uint32(), longest(c.Partitions[p]))
		for at := range one.Differ(booted(t, c, programs)) {
			if whose, e := layout.Owner(c, at); e != api.OK || whose != (api.Owner{Kind: api.OwnRegion, Index: p}) {
				t.Errorf("seed %d: the word %d of %v hangs on the program of %d", seed, at, whose, p)
			}
		}
	}
}

// P24.4: a goroutine for each partition lays it anew, while another one works on all words that are none of theirs.
func TestSideBySide(t *testing.T) {
	for seed := range uint64(60) {
		r := rand.New(rand.NewPCG(seed, 248))
		c := drawn(t, r)
		programs := drawnPrograms(r, c)
		m, want := marked(t, c.Frames)
		mine := map[int]int{}
		for p, x := range c.Partitions {
			for at, w := range ownWords(x, programOf(programs, p)) {
				want[at] = w
				mine[at]++
			}
		}
		var all sync.WaitGroup
		for p := range c.Partitions {
			all.Go(func() {
				for range 3 {
					anew(t, "side by side", m, c, p, programOf(programs, p), api.OK)
				}
			})
		}
		all.Go(func() {
			for at := range want {
				if mine[at] == 0 {
					want[at] = uint32(seed)
					m.Write(at, uint32(seed))
				}
			}
		})
		all.Wait()
		has(t, m, want)
		if t.Failed() {
			t.Fatalf("seed %d: %+v", seed, c)
		}
	}
}

// P24.4: refused ones among them change nothing, and boots beside them have nothing in common with them.
func TestSideBySideRefused(t *testing.T) {
	c := scattered()
	programs := [][]uint32{counted(1, 80), counted(1, 1024), nil}
	want := booted(t, c, programs).Words()
	m, e, _ := boot.Boot(c, programs)
	if e != api.OK {
		t.Fatal(e)
	}
	var all sync.WaitGroup
	for p, program := range programs {
		all.Go(func() {
			for range 20 {
				anew(t, "right", m, c, p, program, api.OK)
				anew(t, "too long", m, c, p, append(counted(1, len(program)), 1), api.ErrBootProgram)
				anew(t, "no partition", m, c, 3+p, program, api.ErrArg)
			}
		})
		all.Go(func() {
			if other, e, _ := boot.Boot(c, programs); e != api.OK || !slices.Equal(other.Words(), want) {
				t.Errorf("Boot beside others: error %d", e)
			}
		})
	}
	all.Wait()
	has(t, m, want)
}
