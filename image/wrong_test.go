package image_test

import (
	"bytes"
	"slices"
	"testing"

	"bulkhead/api"
	"bulkhead/image"
	"bulkhead/kernel"
)

// called is the body of chapter 29's second example: a machine in the midst of a call, without the sum.
func called(t *testing.T, x recipe) []byte {
	t.Helper()
	k := x.boot(t)
	steps(t, k, 0)
	b := saved(t, k)
	return b[:len(b)-4]
}

// other is the same machine over another program: its key is another one.
func other(x recipe) recipe {
	x.programs = [][]uint32{{0}}
	return x
}

// spoilt is a body with some bytes in the place of others from a place on.
func spoilt(body []byte, at, gone int, now ...byte) []byte {
	return slices.Concat(body[:at], now, body[at+gone:])
}

// Where a call's items stand in the body of called.
const (
	atWords   = 8
	atCores   = 1036
	atMode    = 1037
	atSets    = 1115 // one of four
	atLeaves  = 1123
	atCall    = 1130
	atChain   = 1140
	atLocks   = 1145
	atAsked   = 1146
	atTickets = 1147
	atDone    = 1148
	atTells   = 1149
)

// P29.2: bytes that are not laid out as they must be are refused ahead of all that is asked of the configuration, programs and feeds.
func TestFormAheadOfBoot(t *testing.T) {
	x := known(t)
	body := called(t, x)
	rows := []struct {
		what string
		b    []byte
	}{
		{"nothing but a sum", nil},
		{"another mark", spoilt(body, 0, 1, 0x43)},
		{"another mark's end", spoilt(body, 3, 1, 0x32)},
		{"a mark alone", body[:4]},
		{"a word more than there are", spoilt(body, atWords, 2, 1, 1)},
		{"a word less than there are", spoilt(body, atWords, 2, 0xff, 0)},
		{"too many words", slices.Concat(body[:atWords], tally(4, 16385), make([]byte, 4*16385), body[atCores:])},
		{"very many words", spoilt(body, atWords, 4, 0xff, 0xff, 0xff, 0xff)},
		{"two cores, one state", spoilt(body, atCores, 1, 2)},
		{"no core, one state", spoilt(body, atCores, 1, 0)},
		{"five cores", slices.Concat(body[:atCores], []byte{5}, bytes.Repeat(body[atMode:], 5))},
		{"three lines of a set", spoilt(body, atSets, 5, append([]byte{3}, make([]byte, 12)...)...)},
		{"five leaves", spoilt(body, atLeaves, 7, append([]byte{5}, make([]byte, 30)...)...)},
		{"three locks in a chain", spoilt(body, atChain, 5, append([]byte{3}, make([]byte, 12)...)...)},
		{"asked twice", spoilt(body, atAsked, 1, 2)},
		{"three tickets", spoilt(body, atTickets, 1, append([]byte{3}, make([]byte, 12)...)...)},
		{"done twice", spoilt(body, atDone, 1, 2)},
		{"told twice", spoilt(body, atTells, 1, 255)},
		{"a call in mode run", spoilt(body, atMode, 1, api.ModeRun)},
		{"no call in mode call", spoilt(body, atCall, 24)},
		{"a byte left", append(slices.Clone(body), 0)},
		{"another image behind it", slices.Concat(body, body)},
	}
	for _, row := range rows {
		b := sealed(row.b)
		x.refuses(t, b, api.ErrImageForm, row.what)
		other(x).refuses(t, b, api.ErrImageForm, row.what+", other programs")
		recipe{}.refuses(t, b, api.ErrImageForm, row.what+", no configuration")
	}
	for n := range body {
		other(x).refuses(t, sealed(body[:n]), api.ErrImageForm, "cut off, with a sum of its own")
	}
}

// P29.2: what is laid out right, but is no state of the machine, is refused behind configuration, programs and feeds.
func TestBootAheadOfStates(t *testing.T) {
	x := known(t)
	body := called(t, x)
	rows := []struct {
		what string
		b    []byte
	}{
		{"no words", slices.Concat(body[:atWords], tally(4, 0), body[atCores:])},
		{"as many words as a memory can have", slices.Concat(body[:atWords], tally(4, 16384), make([]byte, 4*16384), body[atCores:])},
		{"no cores", append(slices.Clone(body[:atCores]), 0)},
		{"four cores", slices.Concat(body[:atCores], []byte{4}, bytes.Repeat(body[atMode:], 4))},
		{"another epoch", spoilt(body, atMode+1, 1, 1)},
		{"a window that is not there", spoilt(body, atMode+5, 1, 1)},
		{"a great Used", spoilt(body, atMode+6, 4, 0xff, 0xff, 0xff, 0xff)},
		{"no such mode", slices.Concat(body[:atMode], []byte{9}, body[atMode+1:atCall])},
		{"mode 0", slices.Concat(body[:atMode], []byte{0}, body[atMode+1:atCall])},
		{"the same line twice", spoilt(body, atSets, 5, 2, 8, 0, 0, 0, 8, 0, 0, 0)},
		{"a line that is none", spoilt(body, atSets, 5, 1, 0xff, 0xff, 0xff, 0xff)},
		{"the same leaf four times", spoilt(body, atLeaves, 7, append([]byte{4}, bytes.Repeat(body[atLeaves+1:atLeaves+7], 4)...)...)},
		{"a leaf's frame", spoilt(body, atLeaves+2, 1, 3)},
		{"a call that costs nothing", spoilt(body, atCall, 1, 0)},
		{"another call", spoilt(body, atCall+1, 1, 5)},
		{"no chain", spoilt(body, atChain, 5, 0)},
		{"a chain of two", spoilt(body, atChain, 5, 2, 130, 0, 0, 0, 132, 0, 0, 0)},
		{"very many locks", spoilt(body, atLocks, 1, 255)},
		{"asked without a ticket", spoilt(body, atAsked, 1, 1)},
		{"two tickets", spoilt(body, atTickets, 1, 2, 0, 0, 0, 0, 1, 0, 0, 0)},
		{"done without a lock", spoilt(body, atDone, 1, 1)},
		{"tells ahead of the call", spoilt(body, atTells, 1, 1)},
		{"a table's word", spoilt(body, atWords+4+4*160, 1, 0xee)},
	}
	for _, row := range rows {
		b := sealed(row.b)
		x.refuses(t, b, api.ErrImageForm, row.what)
		other(x).refuses(t, b, api.ErrImageBoot, row.what+", other programs")
		recipe{}.refuses(t, b, api.ErrImageBoot, row.what+", no configuration")
	}
}

// P29.2: the sum is asked ahead of all else but the number of bytes.
func TestSumAheadOfForm(t *testing.T) {
	x := known(t)
	body := called(t, x)
	for n := range 4 {
		x.refuses(t, make([]byte, n), api.ErrImageForm, "fewer than four bytes")
		recipe{}.refuses(t, body[:n], api.ErrImageForm, "fewer than four bytes")
	}
	x.refuses(t, nil, api.ErrImageForm, "nil")
	x.refuses(t, []byte{0, 0, 0, 0}, api.ErrImageForm, "a sum of nothing")
	for i := range 4 {
		b := make([]byte, 4)
		b[i] = 1
		x.refuses(t, b, api.ErrImageSum, "a wrong sum of nothing")
	}
	rows := [][]byte{body, body[:4], body[:len(body)-1], spoilt(body, 0, 1, 0), spoilt(body, atAsked, 1, 2), spoilt(body, atMode, 1, 9)}
	for _, b := range rows {
		b = sealed(b)
		for i := len(b) - 4; i < len(b); i++ {
			wrong := slices.Clone(b)
			wrong[i] ^= 0x10
			x.refuses(t, wrong, api.ErrImageSum, "a wrong sum")
			other(x).refuses(t, wrong, api.ErrImageSum, "a wrong sum, other programs")
		}
	}
}

// twoOf is a machine of two partitions, with feeds for both.
func twoOf(t *testing.T) recipe {
	t.Helper()
	x := recipeOf(t, `
		memory 24
		major 300
		kernel 8 8
		partition a entry 0 action halt restarts 0 inputs 2 outputs 1
		  region 0 1 0 rwx
		partition b entry 0 action halt restarts 0 inputs 2 outputs 1
		  region 0 1 1 rwx
		core
		  window 0 200 100
		core
		  window 1 200 100
		end`, "hyp 4\nhyp 0", "")
	x.feeds = []api.Feed{
		{Partition: 0, Epoch: 0, Words: []uint32{1, 2}},
		{Partition: 1, Epoch: 0, Words: []uint32{3}},
		{Partition: 1, Epoch: 1, Words: []uint32{4}},
	}
	return x
}

// P29.2: an image is of one configuration, of programs and of feeds alone; whatever differs, the key does.
func TestImageOfSomethingElse(t *testing.T) {
	x := twoOf(t)
	k := x.boot(t)
	steps(t, k, 0, 1, 0)
	b := saved(t, k)
	rows := []struct {
		what   string
		change func(y *recipe)
	}{
		{"a longer name", func(y *recipe) { y.c.Partitions[1].Name = "bb" }},
		{"a region more", func(y *recipe) {
			y.c.Partitions[1].Regions = append(y.c.Partitions[1].Regions, api.Region{Page: 3, Pages: 1, Frame: 3, Rights: 1})
		}},
		{"a window more", func(y *recipe) {
			y.c.Cores[0] = []api.Window{{Partition: 0, Usable: 100, Slack: 100}, {Partition: -1, Usable: 1, Slack: 99}}
		}},
		{"a core more", func(y *recipe) { y.c.Cores = append(y.c.Cores, []api.Window{{Partition: -1, Usable: 200, Slack: 100}}) }},
		{"a program's word", func(y *recipe) { y.programs[0][1]++ }},
		{"a word behind a program", func(y *recipe) { y.programs[0] = append(y.programs[0], 0) }},
		{"a program's last word left out", func(y *recipe) { y.programs[0] = y.programs[0][:1] }},
		{"a program that was not there", func(y *recipe) { y.programs[1] = []uint32{0} }},
		{"the program of the other one", func(y *recipe) { y.programs[0], y.programs[1] = y.programs[1], y.programs[0] }},
		{"no programs", func(y *recipe) { y.programs = nil }},
		{"a feed's word", func(y *recipe) { y.feeds[0].Words[1]++ }},
		{"a feed's words in another order", func(y *recipe) { y.feeds[0].Words[0], y.feeds[0].Words[1] = 2, 1 }},
		{"a feed's frame", func(y *recipe) { y.feeds[2].Epoch = 2 }},
		{"a feed's partition", func(y *recipe) { y.feeds[2].Partition = 0 }},
		{"a word more", func(y *recipe) { y.feeds[2].Words = append(y.feeds[2].Words, 0) }},
		{"a feed more", func(y *recipe) { y.feeds = append(y.feeds, api.Feed{Epoch: api.MaxEpoch - 1, Words: []uint32{0}}) }},
		{"a feed less", func(y *recipe) { y.feeds = y.feeds[:2] }},
		{"no feeds", func(y *recipe) { y.feeds = nil }},
	}
	for _, row := range rows {
		y := twoOf(t)
		row.change(&y)
		y.boot(t)
		y.refuses(t, b, api.ErrImageBoot, row.what)
	}
}

// P29.2: the form of a configuration ends with its own sum, so that all forms of one length count alike in the key: of such a configuration kernel.Restore alone is asked.
func TestConfigurationsOfOneLength(t *testing.T) {
	x := twoOf(t)
	b := saved(t, x.boot(t))
	named := twoOf(t)
	named.c.Partitions[1].Name = "c"
	k := named.load(t, b)
	if k.Config().Partitions[1].Name != "c" || !bytes.Equal(saved(t, k), b) {
		t.Errorf("a machine of %v, or another image", k.Config())
	}
	greater := twoOf(t)
	greater.c.Frames = 25
	greater.refuses(t, b, api.ErrImageForm, "a greater memory")
}

// P29.2: configurations, programs and feeds that kernel.New refuses.
func TestWhatCannotBeBooted(t *testing.T) {
	b := saved(t, twoOf(t).boot(t))
	rows := []struct {
		what   string
		change func(y *recipe)
	}{
		{"no configuration", func(y *recipe) { y.c = api.Config{} }},
		{"windows that do not fill the frame", func(y *recipe) { y.c.Major = 301 }},
		{"a number that no bytes hold", func(y *recipe) { y.c.Frames = -1 }},
		{"more programs than partitions", func(y *recipe) { y.programs = append(y.programs, nil) }},
		{"a program that does not lie there", func(y *recipe) { y.programs[1] = make([]uint32, 17) }},
		{"a feed of no partition", func(y *recipe) { y.feeds[0].Partition = 2 }},
		{"a feed of no frame", func(y *recipe) { y.feeds[0].Epoch = -1 }},
		{"too many words", func(y *recipe) { y.feeds[0].Words = make([]uint32, 3) }},
		{"the same feed twice", func(y *recipe) { y.feeds = append(y.feeds, y.feeds[0]) }},
		{"too many feeds", func(y *recipe) { y.feeds = make([]api.Feed, api.MaxFeeds+1) }},
	}
	for _, row := range rows {
		y := twoOf(t)
		row.change(&y)
		y.refuses(t, b, api.ErrImageBoot, row.what)
	}
}

// P29.3: the same programs and feeds, written otherwise.
func TestTheSameWrittenOtherwise(t *testing.T) {
	x := twoOf(t)
	k := x.boot(t)
	steps(t, k, 1, 0, 0, 0, 1)
	b := saved(t, k)
	programs := [][][]uint32{x.programs, x.programs[:1], {x.programs[0], {}}, {x.programs[0], nil}}
	feeds := [][]api.Feed{
		x.feeds,
		{x.feeds[2], x.feeds[1], x.feeds[0]},
		{x.feeds[1], {Partition: 1, Epoch: 7}, x.feeds[0], x.feeds[2]},
		{{Partition: 0, Epoch: 1, Words: []uint32{}}, x.feeds[2], x.feeds[0], x.feeds[1], {Partition: 0, Epoch: 9}},
	}
	for _, p := range programs {
		for _, f := range feeds {
			y := recipe{x.c, p, f}
			again := y.load(t, b)
			if !bytes.Equal(saved(t, again), b) {
				t.Errorf("over %v and %v another image", p, f)
			}
			if !bytes.Equal(saved(t, y.boot(t)), saved(t, x.boot(t))) {
				t.Errorf("the machine of %v and %v has another image at the beginning", p, f)
			}
			goesOn(t, x.load(t, b), again, []int{0, 1, 0, 1, 0, 0, 1, 1, 0, 1, 0, 1, 0, 1, 0, 1, 0, 1})
		}
	}
}

// P29.3: whatever is loaded is saved again, byte by byte, be it an image that Save told or one with a byte changed and a sum that is right.
func TestLoadedIsSaved(t *testing.T) {
	x := known(t)
	k := x.boot(t)
	for range 3 { // at the beginning, with a ticket, and behind the carrying out
		b := saved(t, k)
		body := b[:len(b)-4]
		loaded := 0
		for at := range body {
			for _, mask := range []byte{1, 6, 0xff} {
				changed := slices.Clone(body)
				changed[at] ^= mask
				again, e := image.Load(sealed(changed), x.c, x.programs, x.feeds)
				if e != api.OK {
					continue
				}
				loaded++
				if told := saved(t, again); !bytes.Equal(told, sealed(changed)) {
					t.Fatalf("the byte %d changed by %x: loaded, and saved as\n%x, not\n%x", at, mask, told, sealed(changed))
				}
			}
		}
		if loaded < 500 {
			t.Errorf("%d images alone were loaded", loaded)
		}
		steps(t, k, 0, 0)
	}
}

// P29.5: one bit turned.
func TestOneBitTurned(t *testing.T) {
	x := known(t)
	b := sealed(called(t, x))
	for i := range b {
		for bit := range 8 {
			b[i] ^= 1 << bit
			none(t, x, b)
			b[i] ^= 1 << bit
		}
	}
	x.load(t, b)
}

// P29.5: cut off.
func TestCutOff(t *testing.T) {
	x := full(t)
	k := x.boot(t)
	steps(t, k, 0, 1, 2, 3, 0, 1, 2, 3, 0, 1, 2, 3)
	b := saved(t, k)
	for n := range b {
		none(t, x, b[:n])
	}
}

// none asks that bytes are no image.
func none(t *testing.T, x recipe, b []byte) {
	t.Helper()
	if k, e := image.Load(b, x.c, x.programs, x.feeds); k != nil || e != api.ErrImageSum && e != api.ErrImageForm {
		t.Fatalf("Load: %v, error %d", k, e)
	}
}

// A machine that nobody has made has an image, too, which no machine has.
func TestMachineOfNothing(t *testing.T) {
	b := saved(t, &kernel.Kernel{})
	if want := sealed(bodyByHand(keyByHand(t, recipe{}), nil, nil)); !bytes.Equal(b, want) {
		t.Errorf("the image is %x, want %x", b, want)
	}
	recipe{}.refuses(t, b, api.ErrImageBoot, "no configuration")
}
