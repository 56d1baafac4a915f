package text_test

import (
	"math"
	"reflect"
	"strings"
	"testing"

	"bulkhead/api"
	"bulkhead/text"
)

// writes asks for a text.
func writes(t *testing.T, c api.Config, want string) {
	t.Helper()
	if s, e := text.Print(c); e != api.OK || s != want {
		t.Errorf("%+v: %q, error %d; want %q", c, s, e, want)
	}
}

// cannot asks for an error, and for nothing beside it.
func cannot(t *testing.T, c api.Config, e api.Errno) {
	t.Helper()
	if s, got := text.Print(c); got != e || s != "" {
		t.Errorf("%.500q, error %d; want %d", s, got, e)
	}
}

// full has at least one of each, with which nothing is wrong.
func full() api.Config {
	return api.Config{
		Cores: [][]api.Window{{{Partition: 1}, {Partition: -1}}, {}, {{Partition: 0}}},
		Partitions: []api.Partition{
			{Name: "a", Regions: []api.Region{{}, {Rights: 7}}, Ports: []api.Port{{}, {Source: true}}},
			{Name: "b", Action: 2, Regions: []api.Region{{}}, Ports: []api.Port{{}}},
		},
		Channels: []api.Channel{{Kind: 1}, {Kind: 2}, {Kind: 1}, {Kind: 2}},
	}
}

// numbersIn tells all numbers of a configuration that may be any from 0 to 2147483647.
func numbersIn(c *api.Config) []*int {
	all := []*int{&c.Frames, &c.Major, &c.Kernel, &c.Room}
	for i := range c.Channels {
		all = append(all, &c.Channels[i].Words)
		if c.Channels[i].Kind == 2 {
			all = append(all, &c.Channels[i].Depth)
		}
	}
	for i := range c.Partitions {
		p := &c.Partitions[i]
		all = append(all, &p.Entry, &p.Restarts, &p.Inputs, &p.Outputs)
		for j := range p.Regions {
			all = append(all, &p.Regions[j].Page, &p.Regions[j].Pages, &p.Regions[j].Frame)
		}
		for j := range p.Ports {
			all = append(all, &p.Ports[j].Channel)
		}
	}
	for _, windows := range c.Cores {
		for j := range windows {
			all = append(all, &windows[j].Usable, &windows[j].Slack)
		}
	}
	return all
}

// badArgs: each makes of full one that is ErrArg.
var badArgs = map[string]func(c *api.Config){
	"kind 0":              func(c *api.Config) { c.Channels[3].Kind = 0 },
	"kind 3":              func(c *api.Config) { c.Channels[0].Kind = 3 },
	"kind -1":             func(c *api.Config) { c.Channels[1].Kind = -1 },
	"kind with bits more": func(c *api.Config) { c.Channels[1].Kind = 1<<32 + 1 },
	"sampling's depth":    func(c *api.Config) { c.Channels[2].Depth = 1 },
	"sampling's depth -1": func(c *api.Config) { c.Channels[0].Depth = -1 },
	"action 3":            func(c *api.Config) { c.Partitions[0].Action = 3 },
	"action -1":           func(c *api.Config) { c.Partitions[1].Action = -1 },
	"action most":         func(c *api.Config) { c.Partitions[1].Action = math.MaxInt },
	"action least":        func(c *api.Config) { c.Partitions[1].Action = math.MinInt },
	"rights 8":            func(c *api.Config) { c.Partitions[0].Regions[1].Rights = 8 },
	"rights -1":           func(c *api.Config) { c.Partitions[1].Regions[0].Rights = -1 },
	"rights most":         func(c *api.Config) { c.Partitions[0].Regions[0].Rights = math.MaxInt },
	"rights least":        func(c *api.Config) { c.Partitions[0].Regions[0].Rights = math.MinInt },
	"partition -2":        func(c *api.Config) { c.Cores[0][1].Partition = -2 },
	"partition least":     func(c *api.Config) { c.Cores[2][0].Partition = math.MinInt },
}

// P12.3: the lines, each as the table has it.
func TestPrint(t *testing.T) {
	writes(t, api.Config{}, "memory 0\nmajor 0\nkernel 0 0\nend\n")
	writes(t, headed(), head+"end\n")
	writes(t, full(), `memory 0
major 0
kernel 0 0
channel sampling 0
channel queuing 0 0
channel sampling 0
channel queuing 0 0
partition a entry 0 action halt restarts 0 inputs 0 outputs 0
  region 0 0 0 -
  region 0 0 0 rwx
  port 0 dest
  port 0 source
partition b entry 0 action cold restarts 0 inputs 0 outputs 0
  region 0 0 0 -
  port 0 dest
core
  window 1 0 0
  window none 0 0
core
core
  window 0 0 0
end
`)
	c := full()
	for i, n := range numbersIn(&c) {
		*n = 10 + i
	}
	writes(t, c, `memory 10
major 11
kernel 12 13
channel sampling 14
channel queuing 15 16
channel sampling 17
channel queuing 18 19
partition a entry 20 action halt restarts 21 inputs 22 outputs 23
  region 24 25 26 -
  region 27 28 29 rwx
  port 30 dest
  port 31 source
partition b entry 32 action cold restarts 33 inputs 34 outputs 35
  region 36 37 38 -
  port 39 dest
core
  window 1 40 41
  window none 42 43
core
core
  window 0 44 45
end
`)
}

// P12.3: the words of actions and rights.
func TestPrintActionsAndRights(t *testing.T) {
	for action, word := range []string{"halt", "warm", "cold"} {
		c := headed()
		c.Partitions = []api.Partition{{Name: "a", Action: action}}
		writes(t, c, head+strings.Replace(partition, "halt", word, 1)+"end\n")
	}
	for rights, word := range []string{"-", "r", "w", "rw", "x", "rx", "wx", "rwx"} {
		c := headed()
		c.Partitions = []api.Partition{{Name: "a", Regions: []api.Region{{Page: 1, Pages: 2, Frame: 3, Rights: rights}}}}
		writes(t, c, head+partition+"  region 1 2 3 "+word+"\nend\n")
	}
}

// P12.3: ErrArg, wherever it stands.
func TestPrintBadArgs(t *testing.T) {
	for name, turn := range badArgs {
		c := full()
		turn(&c)
		if s, e := text.Print(c); e != api.ErrArg || s != "" {
			t.Errorf("%s: %q, error %d", name, s, e)
		}
	}
}

// P12.3: ErrTextName of any partition's name.
func TestPrintBadNames(t *testing.T) {
	for _, name := range []string{"", "A", "aB", "0a", "-a", "a b", " a", "a ", "a\n", "a#", "a_b", "ä", "\xff", "a\xff", "a\x00", strings.Repeat("m", mostName+1), strings.Repeat("m", mostText)} {
		for i := range 2 {
			c := full()
			c.Partitions[i].Name = name
			cannot(t, c, api.ErrTextName)
		}
	}
}

// P12.3: ErrTextNumber of any number that the lines say.
func TestPrintBadNumbers(t *testing.T) {
	for i := range func() int { c := full(); return len(numbersIn(&c)) }() {
		for _, n := range []int{-1, math.MinInt, mostNumber + 1, math.MaxInt, 1 << 32} {
			c := full()
			*numbersIn(&c)[i] = n
			cannot(t, c, api.ErrTextNumber)
		}
		for _, n := range []int{0, 1, mostNumber} {
			c := full()
			*numbersIn(&c)[i] = n
			s, e := text.Print(c)
			got, line, back := text.Parse(s)
			if e != api.OK || back != api.OK || line != 0 || !same(got, c) {
				t.Errorf("number %d as %d: %q, error %d", i, n, s, e)
			}
		}
	}
	for _, n := range []int{mostNumber + 1, math.MaxInt, 1<<32 - 1} {
		c := full()
		c.Cores[2][0].Partition = n
		cannot(t, c, api.ErrTextNumber)
	}
	c := headed()
	c.Cores = [][]api.Window{{{Partition: mostNumber, Usable: 1, Slack: 2}}}
	writes(t, c, head+"core\n  window 2147483647 1 2\nend\n")
}

// P12.3: the errors in their order, wherever each of them stands.
func TestPrintOrder(t *testing.T) {
	long := func(c *api.Config) { c.Cores = append(c.Cores, make([][]api.Window, mostText)...) }
	number := func(c *api.Config) { c.Frames = -1 }
	lateNumber := func(c *api.Config) { c.Cores = append(c.Cores, []api.Window{{Slack: -1}}) }
	name := func(c *api.Config) { c.Partitions[1].Name = "B" }
	for what, arg := range badArgs {
		for _, more := range [][]func(*api.Config){{name}, {number}, {lateNumber}, {long}, {name, number, long, lateNumber}} {
			c := full()
			arg(&c)
			for _, turn := range more {
				turn(&c)
			}
			if s, e := text.Print(c); e != api.ErrArg || s != "" {
				t.Errorf("%s: error %d", what, e)
			}
		}
	}
	for _, more := range [][]func(*api.Config){{number}, {lateNumber}, {long}, {number, long, lateNumber}} {
		c := full()
		name(&c)
		for _, turn := range more {
			turn(&c)
		}
		cannot(t, c, api.ErrTextName)
	}
	for _, more := range [][]func(*api.Config){{number, long}, {long, lateNumber}} {
		c := full()
		for _, turn := range more {
			turn(&c)
		}
		cannot(t, c, api.ErrTextNumber)
	}
	c := full()
	long(&c)
	cannot(t, c, api.ErrLong)
	c.Cores = append(c.Cores, []api.Window{{Partition: -2}}) // far behind where the text has grown too long
	cannot(t, c, api.ErrArg)
}

// P12.3: a text of MaxText bytes is told, one of a byte more is not.
func TestPrintLength(t *testing.T) {
	for ahead := range 20 {
		c := headed()
		c.Frames = 1
		s := head + "end\n"
		for range ahead { // so that the end is come to at each place of a line
			c.Partitions = append(c.Partitions, named())
			s = strings.Replace(s, "end\n", partition+"end\n", 1)
		}
		cores := (mostText - len(s)) / len("core\n")
		c.Cores = make([][]api.Window, cores)
		s = strings.Replace(s, "end\n", strings.Repeat("core\n", cores)+"end\n", 1)
		for i := range mostText - len(s) { // up to four bytes are left
			switch i {
			case 0:
				c.Frames = 10
			case 1:
				c.Major = 20
			case 2:
				c.Kernel = 30
			case 3:
				c.Room = 40
			}
		}
		got, e := text.Print(c)
		if e != api.OK || len(got) != mostText {
			t.Errorf("%d bytes, error %d", len(got), e)
		}
		if back, line, e := text.Parse(got); e != api.OK || line != 0 || !same(back, c) {
			t.Errorf("line %d, error %d", line, e)
		}
		c.Frames = 100
		cannot(t, c, api.ErrLong)
		c.Cores = make([][]api.Window, cores+1)
		cannot(t, c, api.ErrLong)
	}
}

// P12.4: Parse of what Print tells is the configuration, and nil and empty lists are alike.
func TestThereAndBack(t *testing.T) {
	for _, c := range []api.Config{{}, headed(), example(), full(), {Cores: [][]api.Window{}, Partitions: []api.Partition{}, Channels: []api.Channel{}}, {Cores: [][]api.Window{nil, {}}, Partitions: []api.Partition{{Name: "a", Regions: []api.Region{}, Ports: []api.Port{}}}}} {
		s, e := text.Print(c)
		if e != api.OK {
			t.Errorf("%+v: error %d", c, e)
		}
		if again, e := text.Print(plain(c)); e != api.OK || again != s {
			t.Errorf("%q and %q, error %d", s, again, e)
		}
		reads(t, s, c)
	}
}

// P12.4: a text may say more than Print has room for, as the blanks ahead of a line may be left out.
func TestPrintOfWhatParseTells(t *testing.T) {
	s := head + "core\n" + strings.Repeat("window 1 1 1\n", (mostText-len(head)-len("core\nend"))/len("window 1 1 1\n")) + "end"
	c, line, e := text.Parse(s)
	if e != api.OK || line != 0 {
		t.Fatalf("line %d, error %d", line, e)
	}
	cannot(t, c, api.ErrLong)
	c.Cores[0] = c.Cores[0][:len(c.Cores[0])/2]
	told, e := text.Print(c)
	if e != api.OK {
		t.Fatalf("error %d", e)
	}
	reads(t, told, c)
}

// R5: what is handed in stays as it is, the room behind its ends too.
func TestPrintChangesNothing(t *testing.T) {
	roomy := func() api.Config {
		c := full()
		c.Cores = append(make([][]api.Window, 0, 9), c.Cores...)
		c.Cores[0] = append(make([]api.Window, 0, 9), c.Cores[0]...)
		c.Channels = append(make([]api.Channel, 0, 9), c.Channels...)
		c.Partitions = append(make([]api.Partition, 0, 9), c.Partitions...)
		c.Partitions[0].Regions = append(make([]api.Region, 0, 9), c.Partitions[0].Regions...)
		c.Partitions[0].Ports = append(make([]api.Port, 0, 9), c.Partitions[0].Ports...)
		return c
	}
	all := func(c api.Config) []any {
		p := c.Partitions[0]
		return []any{c, c.Cores[:9], c.Cores[0][:9], c.Channels[:9], c.Partitions[:9], p.Regions[:9], p.Ports[:9]}
	}
	c := roomy()
	text.Print(c)
	c.Frames = -1
	text.Print(c)
	c.Frames = 0
	if !reflect.DeepEqual(all(c), all(roomy())) {
		t.Errorf("%+v", all(c))
	}
}
