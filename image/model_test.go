package image_test

import (
	"bytes"
	"cmp"
	"encoding/binary"
	"hash/crc32"
	"math/rand/v2"
	"reflect"
	"slices"
	"testing"

	"bulkhead/api"
	"bulkhead/conf"
	"bulkhead/image"
	"bulkhead/kernel"
)

// The image of the document's tables, written with the library's means alone.

func packed(words []uint32) []byte {
	var b []byte
	for _, w := range words {
		b = binary.LittleEndian.AppendUint32(b, w)
	}
	return b
}

// sealed puts the sum behind bytes.
func sealed(b []byte) []byte {
	return binary.LittleEndian.AppendUint32(slices.Clone(b), crc32.ChecksumIEEE(b))
}

// tally is numbers as bytes: each with how many bytes it takes.
func tally(pairs ...int) []byte {
	var b []byte
	for i := 0; i < len(pairs); i += 2 {
		whole := binary.LittleEndian.AppendUint64(nil, uint64(pairs[i+1]))
		b = append(b, whole[:pairs[i]]...)
	}
	return b
}

func numberOf(is bool) int {
	if is {
		return 1
	}
	return 0
}

// keyByHand takes what the machine was made of, not what it tells of that.
func keyByHand(t *testing.T, x recipe) int {
	t.Helper()
	form, e := conf.Encode(x.c)
	if e != api.OK {
		t.Fatalf("Encode: error %d", e)
	}
	b := append(tally(4, len(form)), form...)
	for p := range x.c.Partitions {
		if p >= len(x.programs) {
			b = append(b, 0, 0, 0, 0)
			continue
		}
		b = append(b, tally(4, len(x.programs[p]))...)
		b = append(b, packed(x.programs[p])...)
	}
	feeds := slices.DeleteFunc(slices.Clone(x.feeds), func(f api.Feed) bool { return len(f.Words) == 0 })
	slices.SortFunc(feeds, func(f, g api.Feed) int {
		return cmp.Or(cmp.Compare(f.Epoch, g.Epoch), cmp.Compare(f.Partition, g.Partition))
	})
	b = append(b, tally(4, len(feeds))...)
	for _, f := range feeds {
		b = append(b, tally(1, f.Partition, 4, f.Epoch, 1, len(f.Words))...)
		b = append(b, packed(f.Words)...)
	}
	return int(crc32.ChecksumIEEE(b))
}

// coreByHand is a core's state as bytes.
func coreByHand(s api.CoreState) []byte {
	b := tally(1, s.Mode, 4, s.Epoch, 1, s.Window, 4, s.Used)
	b = append(b, packed(s.Held.Context.Regs[:])...)
	b = append(b, tally(4, int(s.Held.Context.PC))...)
	for set := range api.Sets {
		lines := s.Held.Lines[set]
		b = append(b, byte(len(lines)))
		for _, at := range lines {
			b = append(b, tally(4, at)...)
		}
	}
	b = append(b, byte(len(s.Held.Leaves)))
	for _, l := range s.Held.Leaves {
		b = append(b, tally(1, l.Page, 4, l.Frame, 1, l.Rights)...)
	}
	if s.Mode != api.ModeCall {
		return b
	}
	b = append(b, tally(1, s.Act.Cost, 1, s.Act.Call, 4, int(s.Act.PC), 4, int(s.Act.Word), 1, len(s.Chain))...)
	for _, at := range s.Chain {
		b = append(b, tally(4, at)...)
	}
	b = append(b, tally(1, s.Locks, 1, numberOf(s.Asked), 1, len(s.Tickets))...)
	b = append(b, packed(s.Tickets)...)
	return append(b, tally(1, numberOf(s.Done), 1, numberOf(s.Tells), 4, int(s.Word))...)
}

// bodyByHand is all of an image but its sum.
func bodyByHand(key int, words []uint32, states []api.CoreState) []byte {
	b := append(tally(4, 0x31494842, 4, key, 4, len(words)), packed(words)...)
	b = append(b, byte(len(states)))
	for _, s := range states {
		b = append(b, coreByHand(s)...)
	}
	return b
}

func imageByHand(t *testing.T, x recipe, k *kernel.Kernel) []byte {
	t.Helper()
	return sealed(bodyByHand(keyByHand(t, x), k.Memory().Words(), k.States()))
}

// kinds counts what has come up on walks, so that no walk passes by what it is to hold.
type kinds map[string]int

func (n kinds) count(states []api.CoreState) {
	for _, s := range states {
		n[[]string{"", "run", "call", "arrive", "wait", "end"}[s.Mode]]++
		n["two locks"] += numberOf(len(s.Chain) == 2)
		n["two tickets"] += numberOf(len(s.Tickets) == 2)
		n["asked"] += numberOf(s.Asked)
		n["done"] += numberOf(s.Done)
		n["tells"] += numberOf(s.Tells && s.Word != 0)
		n["later frame"] += numberOf(s.Epoch > 1)
		n["later window"] += numberOf(s.Window > 0)
		n["full TLB"] += numberOf(len(s.Held.Leaves) == api.Leaves)
		n["full set"] += numberOf(slices.ContainsFunc(s.Held.Lines, func(set []int) bool { return len(set) == api.Ways }))
	}
}

// P29.1, P29.2, P29.3, P29.4: along walks each image is the one that the tables say; it changes nothing; the machine that is loaded from it is as it was made, tells the same image, and takes the walk's next steps in the place of the one that was saved, whose twin was never saved.
func TestWalks(t *testing.T) {
	n := kinds{}
	for seed := range uint64(4) {
		x := full(t)
		r := rand.New(rand.NewPCG(seed, 29))
		k, twin := x.boot(t), x.boot(t)
		for i := range 6000 {
			if i%7 == 0 {
				n.count(k.States())
				b := saved(t, k)
				if want := imageByHand(t, x, twin); !bytes.Equal(b, want) {
					t.Fatalf("seed %d, behind %d steps: the image is\n%x, want\n%x", seed, i, b, want)
				}
				if i%2 == 0 {
					k = x.load(t, b)
					same(t, k, twin)
				}
				if again := saved(t, k); !bytes.Equal(again, b) {
					t.Fatalf("seed %d, behind %d steps: another image", seed, i)
				}
			}
			core := r.IntN(4)
			if one, another := steps(t, k, core), steps(t, twin, core); !reflect.DeepEqual(one, another) {
				t.Fatalf("seed %d: the step %d tells %v, not %v", seed, i, one, another)
			}
		}
	}
	for _, what := range []string{"run", "call", "arrive", "wait", "two locks", "two tickets", "asked", "done", "tells", "later frame", "later window", "full TLB", "full set"} {
		if n[what] == 0 {
			t.Errorf("no walk has come by this: %s", what)
		}
	}
}

// same asks that two machines tell the same of themselves.
func same(t *testing.T, a, b *kernel.Kernel) {
	t.Helper()
	if !slices.Equal(a.Memory().Words(), b.Memory().Words()) || !reflect.DeepEqual(a.States(), b.States()) {
		t.Fatal("the words or the states are others")
	}
	if !reflect.DeepEqual(a.Cores(), b.Cores()) || !reflect.DeepEqual(a.Partitions(), b.Partitions()) || a.Epoch() != b.Epoch() {
		t.Fatal("the cores, the partitions or the epoch are others")
	}
	if !reflect.DeepEqual(a.Config(), b.Config()) || !reflect.DeepEqual(a.Programs(), b.Programs()) || !reflect.DeepEqual(a.Feeds(), b.Feeds()) {
		t.Fatal("it is made of something else")
	}
}

// P29.4: of Aheads, too.
func TestGoesOnAhead(t *testing.T) {
	x := full(t)
	r := rand.New(rand.NewPCG(4, 29))
	k := x.boot(t)
	for i := range 300 {
		again := x.load(t, saved(t, k))
		core := r.IntN(4)
		one, e := k.Ahead(core)
		another, f := again.Ahead(core)
		if e != api.OK || f != api.OK || !reflect.DeepEqual(one, another) {
			t.Fatalf("behind %d: Ahead(%d) tells %v, error %d, and on the machine that was loaded %v, error %d", i, core, one, e, another, f)
		}
		goesOn(t, k, again, []int{r.IntN(4), core, r.IntN(4)})
	}
}

// P29.1 to P29.4: a machine at the end of its last frame.
func TestTheLastFrame(t *testing.T) {
	x := known(t)
	x.feeds = append(x.feeds, api.Feed{Partition: 0, Epoch: api.MaxEpoch - 1, Words: []uint32{5}})
	fresh := x.boot(t)
	words, states := fresh.Memory().Words(), fresh.States()
	words[129] = api.MaxEpoch - 1
	states[0].Epoch = api.MaxEpoch - 1
	k := x.load(t, sealed(bodyByHand(keyByHand(t, x), words, states)))
	for i := range 40 {
		b := saved(t, k)
		if !bytes.Equal(b, imageByHand(t, x, k)) {
			t.Fatalf("behind %d steps another image", i)
		}
		k = x.load(t, b)
		steps(t, k, 0)
	}
	if s := k.States()[0]; s.Mode != api.ModeEnd || s.Epoch != api.MaxEpoch {
		t.Errorf("the core stands at %v", s)
	}
}

// P29.1: two images share nothing, and the machine shares nothing with them.
func TestImagesAreNew(t *testing.T) {
	k := full(t).boot(t)
	a, b := saved(t, k), saved(t, k)
	clear(a)
	if bytes.Equal(a, b) || !bytes.Equal(saved(t, k), b) {
		t.Error("an image is changed through another one")
	}
}

// Load keeps and changes nothing that it is handed.
func TestNothingIsKept(t *testing.T) {
	x := full(t)
	k := x.boot(t)
	steps(t, k, 0, 1, 2, 3, 0, 1)
	b := saved(t, k)
	kept := slices.Clone(b)
	y := full(t)
	again, e := image.Load(b, y.c, y.programs, y.feeds)
	if e != api.OK || !bytes.Equal(b, kept) || !reflect.DeepEqual(x, y) {
		t.Fatalf("Load changes what it is handed: error %d", e)
	}
	clear(b)
	clear(y.programs[0])
	clear(y.feeds)
	clear(y.c.Partitions)
	clear(y.c.Cores[0])
	if !bytes.Equal(saved(t, again), kept) {
		t.Error("the machine hangs on what was handed in")
	}
}
