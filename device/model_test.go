package device_test

import (
	"cmp"
	"math/rand/v2"
	"slices"
	"sync"
	"testing"

	"bulkhead/api"
	"bulkhead/device"
	"bulkhead/layout"
	"bulkhead/mem"
)

// drawn draws a configuration that holds together: up to 8 partitions, with channels now and then, so that the states lie anywhere.
func drawn(r *rand.Rand) api.Config {
	c := api.Config{Major: 200, Cores: [][]api.Window{{{Partition: -1, Usable: 100, Slack: 100}}}}
	n := 1 + r.IntN(api.MaxPartitions)
	for p := range n {
		page := r.IntN(api.Pages)
		c.Partitions = append(c.Partitions, api.Partition{
			Name: string(rune('a' + p)), Entry: page * api.FrameWords,
			Inputs: r.IntN(api.MaxInputs + 1), Outputs: r.IntN(api.MaxOutputs + 1),
			Regions: []api.Region{{Page: page, Pages: 1, Frame: p, Rights: 7}},
		})
	}
	for i := range r.IntN(api.MaxPorts/2 + 1) {
		c.Channels = append(c.Channels, api.Channel{Kind: api.KindSampling, Words: 1 + r.IntN(api.MaxMessage)})
		for _, source := range []bool{true, false} {
			p := &c.Partitions[r.IntN(n)]
			p.Ports = append(p.Ports, api.Port{Channel: i, Source: source})
		}
	}
	c.Kernel = n + r.IntN(3)
	c.Room, _ = layout.Need(c)
	c.Frames = c.Kernel + c.Room + r.IntN(3)
	return c
}

// moment is a partition's frame.
type moment struct{ p, epoch int }

// draw draws feeds that may be, in any order; frames are near one another, or anywhere.
func draw(r *rand.Rand, c api.Config) map[moment][]uint32 {
	out := map[moment][]uint32{}
	span := []int{4, 40, api.MaxEpoch}[r.IntN(3)]
	for range r.IntN(30) {
		p := r.IntN(len(c.Partitions))
		words := make([]uint32, r.IntN(c.Partitions[p].Inputs+1))
		for i := range words {
			words[i] = r.Uint32()
		}
		out[moment{p, r.IntN(span)}] = words
	}
	return out
}

// listed lists feeds, shuffled; sorted ahead of that, so that a seed draws the same ones each time.
func listed(r *rand.Rand, told map[moment][]uint32) []api.Feed {
	var out []api.Feed
	for at, words := range told {
		out = append(out, feed(at.p, at.epoch, words...))
	}
	slices.SortFunc(out, func(a, b api.Feed) int {
		return cmp.Or(cmp.Compare(a.Partition, b.Partition), cmp.Compare(a.Epoch, b.Epoch))
	})
	r.Shuffle(len(out), func(i, k int) { out[i], out[k] = out[k], out[i] })
	return out
}

// agrees holds all inputs of some frames against what they must be.
func agrees(t *testing.T, d *device.Devices, c api.Config, told map[moment][]uint32) {
	t.Helper()
	epochs := []int{0, 1, 2, 3, 4, 5}
	for at := range told {
		epochs = append(epochs, at.epoch)
	}
	for p := range len(c.Partitions) + 1 {
		for _, epoch := range epochs {
			words := told[moment{p, epoch}]
			for i := range uint32(api.MaxInputs + 2) {
				if int(i) < len(words) {
					inputs(t, d, p, epoch, i, api.ToldOK, words[i])
				} else {
					inputs(t, d, p, epoch, i, api.ToldIndex, 0)
				}
			}
		}
	}
}

// P22.2, P22.5, P22.7: any feeds: each word is told, Feeds is in order, and New of it answers each Input alike.
func TestFeedsModel(t *testing.T) {
	for seed := range uint64(150) {
		r := rand.New(rand.NewPCG(seed, 22))
		c := drawn(r)
		told := draw(r, c)
		d := devicesOf(t, c, listed(r, told)...)
		agrees(t, d, c, told)
		got := d.Feeds()
		for i, f := range got {
			if len(f.Words) == 0 || !slices.Equal(f.Words, told[moment{f.Partition, f.Epoch}]) {
				t.Errorf("feed %d is %v", i, f)
			}
			if i > 0 && (got[i-1].Epoch > f.Epoch || got[i-1].Epoch == f.Epoch && got[i-1].Partition >= f.Partition) {
				t.Errorf("feed %d, %v, stands behind %v", i, f, got[i-1])
			}
		}
		again := devicesOf(t, c, got...)
		agrees(t, again, c, told)
		feeds(t, again, got...)
		if t.Failed() {
			t.Fatalf("seed %d: %+v, %v", seed, c, told)
		}
	}
}

// P22.7: what is told in one frame hangs on no other frame: the others' feeds are put away, or are others.
func TestOneFrameAlone(t *testing.T) {
	for seed := range uint64(100) {
		r := rand.New(rand.NewPCG(seed, 227))
		c := drawn(r)
		one, other := draw(r, c), draw(r, c)
		for _, f := range listed(r, one) {
			at := moment{f.Partition, f.Epoch}
			mixed := map[moment][]uint32{at: f.Words}
			for far, w := range other {
				if far != at {
					mixed[far] = w
				}
			}
			d := devicesOf(t, c, listed(r, mixed)...)
			agrees(t, d, c, mixed)
		}
		if t.Failed() {
			t.Fatalf("seed %d", seed)
		}
	}
}

// heardIn tells where the device of each partition counts.
func heardIn(t *testing.T, c api.Config) []int {
	t.Helper()
	l, e := layout.Of(c)
	if e != api.OK {
		t.Fatalf("layout.Of: error %d", e)
	}
	var out []int
	for _, place := range l.Partitions {
		out = append(out, place.State+4)
	}
	return out
}

// P22.3, P22.4, P22.6: calls in any order on any configuration, held against a model, with all words of the memory.
func TestOutputModel(t *testing.T) {
	for seed := range uint64(150) {
		r := rand.New(rand.NewPCG(seed, 223))
		c := drawn(r)
		d, at := devicesOf(t, c, listed(r, draw(r, c))...), heardIn(t, c)
		want := make([]uint32, c.Frames*api.FrameWords)
		for i := range want {
			want[i] = r.Uint32()
		}
		m, e := mem.Of(want)
		if e != api.OK {
			t.Fatalf("mem.Of: error %d", e)
		}
		for range 150 {
			if r.IntN(12) == 0 {
				var some []int
				for range r.IntN(5) {
					p := r.IntN(len(at))
					some = append(some, p)
					want[at[p]] = 0
				}
				begins(t, d, m, api.OK, some...)
			} else {
				p := r.IntN(len(at))
				told := api.ToldFull
				if want[at[p]] < uint32(c.Partitions[p].Outputs) {
					told = api.ToldOK
					want[at[p]]++
				}
				outputs(t, d, m, p, told, api.OK)
			}
			stays(t, m, want)
		}
		if t.Failed() {
			t.Fatalf("seed %d: %+v", seed, c)
		}
	}
}

// P22.7: told by the answers alone: between two Begins of a partition ToldOK is answered Outputs times at the most, whatever the others do and whatever the word was; just so often, if it is asked often enough.
func TestNoMoreThanOutputs(t *testing.T) {
	for seed := range uint64(60) {
		r := rand.New(rand.NewPCG(seed, 2270))
		c := drawn(r)
		d, m := devicesOf(t, c), memory(t, c.Frames)
		m.Fill(0, c.Frames*api.FrameWords, r.Uint32()&r.Uint32())
		all := make([]int, len(c.Partitions))
		for p := range all {
			all[p] = p
		}
		begins(t, d, m, api.OK, all...)
		said := make([]int, len(all))
		for range 400 {
			p := r.IntN(len(all))
			if r.IntN(30) == 0 {
				begins(t, d, m, api.OK, p)
				said[p] = 0
				continue
			}
			if told, _ := d.Output(m, p); told == api.ToldOK {
				said[p]++
			} else if said[p] != c.Partitions[p].Outputs {
				t.Errorf("seed %d: partition %d is told %d behind %d words", seed, p, told, said[p])
			}
			if said[p] > c.Partitions[p].Outputs {
				t.Errorf("seed %d: partition %d has told %d words", seed, p, said[p])
			}
		}
	}
}

// P22.6, R7: one object, one memory: a goroutine for each partition, while others work on all words but those that are counted in.
func TestSideBySide(t *testing.T) {
	c := open()
	given := []api.Feed{feed(0, 1, 4, 5), feed(1, 1, 6), feed(0, 2)}
	d, m := devicesOf(t, c, given...), memory(t, 10)
	for frame := range uint32(100) {
		var all sync.WaitGroup
		for p := range 2 {
			all.Go(func() {
				begins(t, d, m, api.OK, p)
				for range 5 + p {
					outputs(t, d, m, p, api.ToldOK, api.OK)
				}
				inputs(t, d, p, 1, 0, api.ToldOK, uint32(4+2*p))
				feeds(t, d, given[:2]...)
			})
		}
		all.Go(func() { m.Fill(0, heardOf0, frame) })
		all.Go(func() { m.Fill(heardOf0+1, heardOf1-heardOf0-1, frame) })
		all.Go(func() { m.Fill(heardOf1+1, 159-heardOf1, frame) })
		all.Wait()
		want := slices.Repeat(of(frame), 160)
		want[heardOf0], want[heardOf1] = 5, 6
		stays(t, m, want)
	}
}

// P22.6: devices keep nothing that a call changes: one's answers hang on the memory that it is handed, not on those ahead of it.
func TestNothingKept(t *testing.T) {
	d := devicesOf(t, known(), feed(0, 3, 7, 9))
	one, other := memory(t, 10), memory(t, 10)
	outputs(t, d, one, 0, api.ToldOK, api.OK)
	outputs(t, d, one, 0, api.ToldFull, api.OK)
	outputs(t, d, other, 0, api.ToldOK, api.OK)
	begins(t, d, one, api.OK, 0)
	outputs(t, d, other, 0, api.ToldFull, api.OK)
	for range 3 {
		inputs(t, d, 0, 3, 1, api.ToldOK, 9)
		inputs(t, d, 0, 3, 0, api.ToldOK, 7)
		feeds(t, d, feed(0, 3, 7, 9))
	}
}
