package conf_test

import (
	"bytes"
	"math"
	"reflect"
	"slices"
	"strings"
	"testing"

	"bulkhead/api"
	"bulkhead/bits"
	"bulkhead/conf"
)

// form puts pieces of bytes together, with their sum behind them.
func form(pieces ...[]byte) []byte {
	b := slices.Concat(pieces...)
	n := bits.Sum(b)
	return append(b, byte(n), byte(n>>8), byte(n>>16), byte(n>>24))
}

// zeros: so many bytes 0.
func zeros(n int) []byte { return make([]byte, n) }

// mark is what each form begins with.
func mark() []byte { return []byte{66, 75, 67, 49} }

// empty is the form of the empty configuration.
func empty() []byte { return form(mark(), zeros(19)) }

// sample is a configuration in which no two numbers are alike, so that none can stand for another.
func sample() api.Config {
	return api.Config{
		Frames: 1001, Major: 1002, Kernel: 1003, Room: 1004,
		Cores: [][]api.Window{
			{{Partition: 2001, Usable: 2002, Slack: 2003}, {Partition: -1, Usable: 2005, Slack: 2006}},
			nil,
			{{Partition: 0, Usable: 2008, Slack: 2009}},
		},
		Partitions: []api.Partition{
			{
				Name: "radio", Entry: 3001, Action: 3002, Restarts: 3003, Inputs: 3004, Outputs: 3005,
				Regions: []api.Region{{Page: 4001, Pages: 4002, Frame: 4003, Rights: 4004}, {Page: 4005, Pages: 4006, Frame: 4007, Rights: 4008}},
				Ports:   []api.Port{{Channel: 5001, Source: true}, {Channel: 5002}},
			},
			{Name: "", Entry: math.MaxUint32},
			{Name: "\x00\xff\n", Ports: []api.Port{{Channel: 5003}}},
		},
		Channels: []api.Channel{{Kind: 6001, Words: 6002, Depth: 6003}, {Kind: 6004, Words: 6005, Depth: 6006}},
	}
}

// bare is a configuration without a list that is nil where another one is empty.
func bare(c api.Config) api.Config {
	c.Cores = append([][]api.Window{}, c.Cores...)
	for i, x := range c.Cores {
		c.Cores[i] = append([]api.Window{}, x...)
	}
	c.Partitions = append([]api.Partition{}, c.Partitions...)
	for i := range c.Partitions {
		p := &c.Partitions[i]
		p.Regions = append([]api.Region{}, p.Regions...)
		p.Ports = append([]api.Port{}, p.Ports...)
	}
	c.Channels = append([]api.Channel{}, c.Channels...)
	return c
}

func same(a, b api.Config) bool { return reflect.DeepEqual(bare(a), bare(b)) }

// encoded is the form of a configuration that has one.
func encoded(t *testing.T, c api.Config) []byte {
	t.Helper()
	b, e := conf.Encode(c)
	if e != api.OK {
		t.Fatalf("Encode of %+v: %v", c, e)
	}
	return b
}

// refuses holds Decode's answer against a refusal.
func refuses(t *testing.T, b []byte, place int, want api.Errno) {
	t.Helper()
	c, at, e := conf.Decode(b)
	if at != place || e != want {
		t.Errorf("Decode of %d bytes: %d, %v, not %d, %v", len(b), at, e, place, want)
	}
	if !same(c, api.Config{}) {
		t.Errorf("Decode of %d bytes tells %+v beside %v", len(b), c, e)
	}
}

func TestErrorNumbers(t *testing.T) {
	rows := []struct {
		e    api.Errno
		want int
	}{
		{api.OK, 0},
		{api.ErrLong, 2},
		{api.ErrConfForm, 110},
		{api.ErrConfSum, 111},
		{api.ErrConfWide, 112},
	}
	for _, x := range rows {
		if int(x.e) != x.want {
			t.Errorf("%v is not %d", x.e, x.want)
		}
	}
	if api.MaxBytes != 16384 {
		t.Errorf("MaxBytes is %d", api.MaxBytes)
	}
}

// P11.1: the document's examples, byte by byte.
func TestEncodeOfExamples(t *testing.T) {
	rows := []struct {
		c    api.Config
		want []byte
	}{
		{api.Config{}, empty()},
		{api.Config{Frames: 258}, form(mark(), []byte{2, 1, 0, 0}, zeros(15))},
		{
			api.Config{Cores: [][]api.Window{{{Partition: -1, Usable: 9, Slack: 82}}}},
			form(mark(), zeros(16), []byte{1, 1, 0, 0, 0, 0, 9, 0, 0, 0, 82, 0, 0, 0, 0, 0}),
		},
	}
	for i, x := range rows {
		if b, e := conf.Encode(x.c); e != api.OK || !bytes.Equal(b, x.want) {
			t.Errorf("example %d: %v, %v, not %v", i, b, e, x.want)
		}
		if c, at, e := conf.Decode(x.want); e != api.OK || at != 0 || !same(c, x.c) {
			t.Errorf("example %d read: %+v, %d, %v", i, c, at, e)
		}
	}
	if len(rows[0].want) != 27 || len(rows[1].want) != 27 || len(rows[2].want) != 40 {
		t.Error("the examples have other lengths than the document's")
	}
}

// P11.1: the order of all items, told by a form that is written out by hand.
func TestEncodeItemByItem(t *testing.T) {
	c := api.Config{
		Frames: 1, Major: 0x01020304, Kernel: 3, Room: math.MaxUint32,
		Cores: [][]api.Window{{{Partition: 4, Usable: 5, Slack: 6}}, {}},
		Partitions: []api.Partition{{
			Name: "ab", Entry: 7, Action: 8, Restarts: 9, Inputs: 10, Outputs: 11,
			Regions: []api.Region{{Page: 12, Pages: 13, Frame: 14, Rights: 15}},
			Ports:   []api.Port{{Channel: 16, Source: true}, {Channel: 17, Source: false}},
		}},
		Channels: []api.Channel{{Kind: 18, Words: 19, Depth: 20}},
	}
	want := form(mark(), []byte{
		1, 0, 0, 0, 4, 3, 2, 1, 3, 0, 0, 0, 255, 255, 255, 255,
		2,
		1, 5, 0, 0, 0, 5, 0, 0, 0, 6, 0, 0, 0,
		0,
		1,
		2, 0, 0, 0, 'a', 'b',
		7, 0, 0, 0, 8, 0, 0, 0, 9, 0, 0, 0, 10, 0, 0, 0, 11, 0, 0, 0,
		1, 12, 0, 0, 0, 13, 0, 0, 0, 14, 0, 0, 0, 15, 0, 0, 0,
		2, 16, 0, 0, 0, 1, 17, 0, 0, 0, 0,
		1, 18, 0, 0, 0, 19, 0, 0, 0, 20, 0, 0, 0,
	})
	if b := encoded(t, c); !bytes.Equal(b, want) {
		t.Errorf("Encode = %v, not %v", b, want)
	}
	if x, at, e := conf.Decode(want); e != api.OK || at != 0 || !same(x, c) {
		t.Errorf("Decode = %+v, %d, %v", x, at, e)
	}
}

// setters: each number of a configuration, by itself.
func setters() []func(*api.Config, int) {
	core := func(set func(*api.Window, int)) func(*api.Config, int) {
		return func(c *api.Config, n int) { set(&c.Cores[2][0], n) }
	}
	part := func(set func(*api.Partition, int)) func(*api.Config, int) {
		return func(c *api.Config, n int) { set(&c.Partitions[0], n) }
	}
	region := func(set func(*api.Region, int)) func(*api.Config, int) {
		return func(c *api.Config, n int) { set(&c.Partitions[0].Regions[1], n) }
	}
	channel := func(set func(*api.Channel, int)) func(*api.Config, int) {
		return func(c *api.Config, n int) { set(&c.Channels[1], n) }
	}
	return []func(*api.Config, int){
		func(c *api.Config, n int) { c.Frames = n },
		func(c *api.Config, n int) { c.Major = n },
		func(c *api.Config, n int) { c.Kernel = n },
		func(c *api.Config, n int) { c.Room = n },
		core(func(w *api.Window, n int) { w.Usable = n }),
		core(func(w *api.Window, n int) { w.Slack = n }),
		part(func(p *api.Partition, n int) { p.Entry = n }),
		part(func(p *api.Partition, n int) { p.Action = n }),
		part(func(p *api.Partition, n int) { p.Restarts = n }),
		part(func(p *api.Partition, n int) { p.Inputs = n }),
		part(func(p *api.Partition, n int) { p.Outputs = n }),
		region(func(r *api.Region, n int) { r.Page = n }),
		region(func(r *api.Region, n int) { r.Pages = n }),
		region(func(r *api.Region, n int) { r.Frame = n }),
		region(func(r *api.Region, n int) { r.Rights = n }),
		func(c *api.Config, n int) { c.Partitions[0].Ports[1].Channel = n },
		channel(func(x *api.Channel, n int) { x.Kind = n }),
		channel(func(x *api.Channel, n int) { x.Words = n }),
		channel(func(x *api.Channel, n int) { x.Depth = n }),
	}
}

// P11.1 and P11.3: of each number both ends, and what lies beyond them.
func TestNumbersAtTheirEnds(t *testing.T) {
	for i, set := range setters() {
		for _, n := range []int{0, 1, 255, 256, math.MaxInt32, math.MaxInt32 + 1, math.MaxUint32} {
			c := sample()
			set(&c, n)
			if x, at, e := conf.Decode(encoded(t, c)); e != api.OK || at != 0 || !same(x, c) {
				t.Errorf("number %d as %d: %+v, %d, %v", i, n, x, at, e)
			}
		}
		for _, n := range []int{-1, -2, math.MinInt32, math.MinInt, math.MaxUint32 + 1, math.MaxUint32 + 2, math.MaxInt} {
			c := sample()
			set(&c, n)
			if b, e := conf.Encode(c); e != api.ErrConfWide || len(b) != 0 {
				t.Errorf("number %d as %d: %v, %v", i, n, b, e)
			}
		}
	}
}

// P11.1: a window's Partition is one less than what stands.
func TestWindowPartitionAtItsEnds(t *testing.T) {
	for _, n := range []int{-1, 0, 1, math.MaxUint32 - 2, math.MaxUint32 - 1} {
		c := api.Config{Cores: [][]api.Window{{{Partition: n}}}}
		b := encoded(t, c)
		stands := uint32(n + 1)
		if want := []byte{byte(stands), byte(stands >> 8), byte(stands >> 16), byte(stands >> 24)}; !bytes.Equal(b[22:26], want) {
			t.Errorf("the partition %d stands as %v", n, b[22:26])
		}
		if x, at, e := conf.Decode(b); e != api.OK || at != 0 || !same(x, c) {
			t.Errorf("the partition %d: %+v, %d, %v", n, x, at, e)
		}
	}
	for _, n := range []int{-2, -3, math.MinInt, math.MinInt + 1, math.MaxUint32, math.MaxUint32 + 1, math.MaxInt, math.MaxInt - 1} {
		c := api.Config{Cores: [][]api.Window{{{Partition: n}}}}
		if b, e := conf.Encode(c); e != api.ErrConfWide || len(b) != 0 {
			t.Errorf("the partition %d: %v, %v", n, b, e)
		}
	}
}

// withList: configurations in which one list has n elements.
func withList(n int) []api.Config {
	return []api.Config{
		{Cores: make([][]api.Window, n)},
		{Cores: [][]api.Window{nil, make([]api.Window, n)}},
		{Partitions: make([]api.Partition, n)},
		{Partitions: []api.Partition{{}, {Regions: make([]api.Region, n)}}},
		{Partitions: []api.Partition{{}, {Ports: make([]api.Port, n)}}},
		{Channels: make([]api.Channel, n)},
		{Partitions: []api.Partition{{}, {Name: strings.Repeat("x", n)}}},
	}
}

// P11.1 and P11.3: lists and names of 255 are written, those of 256 are not, and neither are very long ones.
func TestListsAtTheirEnds(t *testing.T) {
	for _, n := range []int{0, 1, 2, 254, 255} {
		for i, c := range withList(n) {
			if x, at, e := conf.Decode(encoded(t, c)); e != api.OK || at != 0 || !same(x, c) {
				t.Errorf("list %d of %d: %d, %v", i, n, at, e)
			}
		}
	}
	for _, n := range []int{256, 257, 511, 512, 70000} {
		for i, c := range withList(n) {
			if b, e := conf.Encode(c); e != api.ErrConfWide || len(b) != 0 {
				t.Errorf("list %d of %d: %d bytes, %v", i, n, len(b), e)
			}
		}
	}
}

// P11.1: any bytes may stand in a name.
func TestNamesOfAnyBytes(t *testing.T) {
	all := make([]byte, 255)
	for i := range all {
		all[i] = byte(i + 1)
	}
	for _, s := range []string{"", " ", "\x00", "\n", "é", "\xff\xfe", string(all)} {
		c := api.Config{Partitions: []api.Partition{{Name: s}}}
		if x, at, e := conf.Decode(encoded(t, c)); e != api.OK || at != 0 || !same(x, c) {
			t.Errorf("the name %q: %+v, %d, %v", s, x, at, e)
		}
	}
}

// ofBytes is a configuration whose form has just so many bytes: 27, cores of one byte, windows of 12.
func ofBytes(n int) api.Config {
	n -= 27
	var c api.Config
	for n > 0 {
		windows := min((n-1)/12, 255)
		c.Cores = append(c.Cores, make([]api.Window, windows))
		n -= 1 + 12*windows
	}
	return c
}

// P11.1: the greatest form has MaxBytes bytes.
func TestEncodeAtMaxBytes(t *testing.T) {
	for _, n := range []int{27, 28, 16383, 16384} {
		c := ofBytes(n)
		b := encoded(t, c)
		if len(b) != n {
			t.Fatalf("%d bytes, not %d", len(b), n)
		}
		if x, at, e := conf.Decode(b); e != api.OK || at != 0 || !same(x, c) {
			t.Errorf("%d bytes: %d, %v", n, at, e)
		}
	}
	for _, n := range []int{16385, 16386, 16388, 16389, 20000, 700000} {
		if b, e := conf.Encode(ofBytes(n)); e != api.ErrLong || len(b) != 0 {
			t.Errorf("for %d bytes: %d bytes, %v", n, len(b), e)
		}
	}
}

// P11.1 and R4: what is wide is refused as such, though it be too long, too, wherever it stands.
func TestWideComesAheadOfLong(t *testing.T) {
	change := []func(*api.Config){
		func(c *api.Config) { c.Frames = -1 },
		func(c *api.Config) { c.Cores[len(c.Cores)-1] = []api.Window{{Slack: -1}} },
		func(c *api.Config) { c.Partitions = []api.Partition{{Ports: []api.Port{{Channel: -1}}}} },
		func(c *api.Config) { c.Channels = []api.Channel{{Depth: math.MaxUint32 + 1}} },
		func(c *api.Config) { c.Channels = make([]api.Channel, 256) },
		func(c *api.Config) { c.Partitions = []api.Partition{{Name: strings.Repeat("x", 256)}} },
	}
	for i, x := range change {
		c := ofBytes(40000)
		x(&c)
		if b, e := conf.Encode(c); e != api.ErrConfWide || len(b) != 0 {
			t.Errorf("change %d: %d bytes, %v", i, len(b), e)
		}
	}
}

// R5: what is handed in is neither changed nor kept, and no list of an answer shares memory with another one.
func TestNothingIsShared(t *testing.T) {
	c := sample()
	b := encoded(t, c)
	if !same(c, sample()) {
		t.Error("Encode has changed the configuration")
	}
	again := encoded(t, c)
	clear(again[:cap(again)])
	if !bytes.Equal(b, encoded(t, c)) {
		t.Error("two answers of Encode share memory")
	}

	room := append(append(make([]byte, 0, len(b)+8), b...), "spare"...)
	before := bytes.Clone(room)
	x, _, e := conf.Decode(room[:len(b)])
	if e != api.OK || !bytes.Equal(room, before) {
		t.Fatalf("Decode has changed its bytes, or says %v", e)
	}
	clear(room)
	if !same(x, sample()) {
		t.Error("what Decode has told shares memory with its bytes")
	}
}

// R5: a list of an answer that grows does not come into another one.
func TestListsOfAnAnswerGrowApart(t *testing.T) {
	x, _, e := conf.Decode(encoded(t, sample()))
	if e != api.OK {
		t.Fatal(e)
	}
	for i := range x.Cores {
		_ = append(x.Cores[i], api.Window{Partition: 9}, api.Window{Partition: 9})
	}
	_ = append(x.Cores, []api.Window{{Partition: 9}})
	for i := range x.Partitions {
		_ = append(x.Partitions[i].Regions, api.Region{Page: 9}, api.Region{Page: 9})
		_ = append(x.Partitions[i].Ports, api.Port{Channel: 9}, api.Port{Channel: 9})
	}
	_ = append(x.Partitions, api.Partition{Name: "z"})
	_ = append(x.Channels, api.Channel{Kind: 9})
	if !same(x, sample()) {
		t.Error("two lists of an answer share memory")
	}
}

// R3: empty lists are written as nil ones are.
func TestEmptyListsAreNone(t *testing.T) {
	c := sample()
	if !bytes.Equal(encoded(t, c), encoded(t, bare(c))) {
		t.Error("an empty list has another form than none")
	}
	if b := encoded(t, bare(api.Config{})); !bytes.Equal(b, empty()) {
		t.Errorf("the empty one: %v", b)
	}
}
