package text_test

import (
	"reflect"
	"strconv"
	"strings"
	"testing"
	"unsafe"

	"bulkhead/api"
	"bulkhead/text"
)

// The bounds by the numbers that the document prints.
const (
	mostText   = 65536
	mostNumber = 2147483647
	mostName   = 16
)

// head: the three lines with which each text begins.
const head = "memory 1\nmajor 2\nkernel 3 4\n"

// partition: a partition's line with which nothing is wrong.
const partition = "partition a entry 0 action halt restarts 0 inputs 0 outputs 0\n"

// headed: what head says.
func headed() api.Config { return api.Config{Frames: 1, Major: 2, Kernel: 3, Room: 4} }

// named: what partition says.
func named() api.Partition { return api.Partition{Name: "a"} }

// plain makes empty lists nil, so that both are the same.
func plain(c api.Config) api.Config {
	c.Cores = append([][]api.Window(nil), c.Cores...)
	for i := range c.Cores {
		c.Cores[i] = append([]api.Window(nil), c.Cores[i]...)
	}
	c.Channels = append([]api.Channel(nil), c.Channels...)
	c.Partitions = append([]api.Partition(nil), c.Partitions...)
	for i := range c.Partitions {
		p := &c.Partitions[i]
		p.Regions = append([]api.Region(nil), p.Regions...)
		p.Ports = append([]api.Port(nil), p.Ports...)
	}
	return c
}

func same(a, b api.Config) bool { return reflect.DeepEqual(plain(a), plain(b)) }

// reads asks for a configuration.
func reads(t *testing.T, s string, want api.Config) {
	t.Helper()
	c, line, e := text.Parse(s)
	if e != api.OK || line != 0 || !same(c, want) {
		t.Errorf("%.300q: %+v, line %d, error %d; want %+v", s, c, line, e, want)
	}
}

// refuses asks for an error at a line, and for nothing beside it.
func refuses(t *testing.T, s string, line int, e api.Errno) {
	t.Helper()
	c, gotLine, gotE := text.Parse(s)
	if gotE != e || gotLine != line || !reflect.DeepEqual(c, api.Config{}) {
		t.Errorf("%.300q: %+v, line %d, error %d; want line %d, error %d", s, c, gotLine, gotE, line, e)
	}
}

// slashed makes a text of lines that are parted by slashes, as the document writes its examples.
func slashed(s string) string { return strings.ReplaceAll(s, " / ", "\n") }

func example() api.Config {
	return api.Config{
		Frames: 64, Major: 800, Kernel: 40, Room: 8,
		Cores: [][]api.Window{{{Partition: 0, Usable: 300, Slack: 100}, {Partition: 1, Usable: 300, Slack: 100}}, {{Partition: -1, Usable: 700, Slack: 100}}},
		Partitions: []api.Partition{
			{
				Name: "radio", Entry: 0, Action: 2, Restarts: 3, Inputs: 0, Outputs: 1,
				Regions: []api.Region{{Page: 0, Pages: 2, Frame: 10, Rights: 7}}, Ports: []api.Port{{Channel: 0, Source: true}},
			},
			{
				Name: "lamp", Entry: 16, Action: 0, Restarts: 0, Inputs: 2, Outputs: 0,
				Regions: []api.Region{{Page: 1, Pages: 1, Frame: 20, Rights: 5}}, Ports: []api.Port{{Channel: 0, Source: false}},
			},
		},
		Channels: []api.Channel{{Kind: 1, Words: 2, Depth: 0}},
	}
}

// exampleText: the section 'Examples' as it stands there.
const exampleText = `memory 64
major 800
kernel 40 8
channel sampling 2
partition radio entry 0 action cold restarts 3 inputs 0 outputs 1
  region 0 2 10 rwx
  port 0 source
partition lamp entry 16 action halt restarts 0 inputs 2 outputs 0
  region 1 1 20 rx
  port 0 dest
core
  window 0 300 100
  window 1 300 100
core
  window none 700 100
end
`

// The errors' numbers, as the chapter prints them.
func TestNumbersOfErrors(t *testing.T) {
	for e, want := range map[api.Errno]int{api.ErrArg: 1, api.ErrLong: 2, api.ErrTextLine: 120, api.ErrTextName: 121, api.ErrTextNumber: 122, api.ErrTextEnd: 123} {
		if int(e) != want {
			t.Errorf("%d, want %d", e, want)
		}
	}
}

// The section 'Examples': its text (P12.1, P12.3).
func TestExampleText(t *testing.T) {
	reads(t, exampleText, example())
	writes(t, example(), exampleText)
}

// The section 'Examples', row by row (P12.1).
func TestExamples(t *testing.T) {
	first := slashed("memory 1 / major 2 / kernel 3 4 / end")
	reads(t, first, headed())
	refuses(t, "", 1, api.ErrTextEnd)
	refuses(t, "memory 1\n", 2, api.ErrTextEnd)
	for _, s := range []string{"major 2", "memory", "memory 1 2", "Memory 1"} {
		refuses(t, s, 1, api.ErrTextLine)
	}
	for _, s := range []string{"memory x", "memory -1", "memory 2147483648"} {
		refuses(t, s, 1, api.ErrTextNumber)
	}
	refuses(t, first+"\nend", 5, api.ErrTextLine)
	ahead := func(lines string) string { return head + slashed(lines) + "\nend" }
	refuses(t, ahead("core / region 0 1 1 r"), 5, api.ErrTextLine)
	refuses(t, ahead("partition Radio entry x action halt restarts 0 inputs 0 outputs 0"), 4, api.ErrTextName)
	refuses(t, ahead("core / partition Radio entry x action halt restarts 0 inputs 0 outputs 0"), 5, api.ErrTextLine)
	refuses(t, ahead("region 0 1 1 xr"), 4, api.ErrTextLine)
	refuses(t, head+partition+"region 0 1 1 xr\nend", 5, api.ErrTextLine)
}

// P12.1: more than MaxText bytes are refused whole, whatever stands in them, and no line is told.
func TestTextThatIsTooLong(t *testing.T) {
	for _, fill := range []string{"\n", " ", "#", "x", "\xff"} {
		refuses(t, strings.Repeat(fill, mostText+1), 0, api.ErrLong)
	}
	good := head + "end\n"
	reads(t, good+strings.Repeat("\n", mostText-len(good)), headed())
	reads(t, good+strings.Repeat("#", mostText-len(good)), headed())
	reads(t, strings.Repeat(" ", mostText-len(good))+good, headed())
	refuses(t, good+strings.Repeat("\n", mostText-len(good)+1), 0, api.ErrLong)
	refuses(t, strings.Repeat(" ", mostText-len(good)+1)+good, 0, api.ErrLong)
	refuses(t, strings.Repeat("x", mostText), 1, api.ErrTextLine)
	refuses(t, strings.Repeat("\n", mostText), mostText+1, api.ErrTextEnd)
	refuses(t, strings.Repeat("\n", mostText-1)+"x", mostText, api.ErrTextLine)
}

// P12.1: without `end` the bytes 10 are counted, and one more.
func TestNoEnd(t *testing.T) {
	lines := strings.SplitAfter(exampleText, "\n")
	lines = lines[:len(lines)-2] // neither `end`, nor what is behind its line
	for n := range len(lines) + 1 {
		s := strings.Join(lines[:n], "")
		refuses(t, s, n+1, api.ErrTextEnd)
		refuses(t, s+"\n\n", n+3, api.ErrTextEnd)
		refuses(t, s+"# end", n+1, api.ErrTextEnd)
		refuses(t, s+" # end\n", n+2, api.ErrTextEnd)
		if n > 0 {
			refuses(t, strings.TrimSuffix(s, "\n"), n, api.ErrTextEnd)
		}
	}
}

// The table of the lines: which first words may come behind which. P12.1: any other is ErrTextLine at its line.
func TestWhatMayComeWhere(t *testing.T) {
	lines := map[string]string{
		"memory": "memory 1\n", "major": "major 2\n", "kernel": "kernel 3 4\n", "channel": "channel sampling 1\n", "partition": partition,
		"region": "region 0 1 1 r\n", "port": "port 0 dest\n", "core": "core\n", "window": "window 0 1 1\n", "end": "end\n",
	}
	lists := "channel partition core end"
	for _, x := range []struct{ ahead, may string }{
		{"", "memory"},
		{"memory", "major"},
		{"memory major", "kernel"},
		{"memory major kernel", lists},
		{"memory major kernel channel", lists},
		{"memory major kernel channel channel", lists},
		{"memory major kernel partition", "region port partition core end"},
		{"memory major kernel partition region", "region port partition core end"},
		{"memory major kernel partition region region", "region port partition core end"},
		{"memory major kernel partition region port", "port partition core end"},
		{"memory major kernel partition port", "port partition core end"},
		{"memory major kernel partition region port port", "port partition core end"},
		{"memory major kernel partition region port partition", "region port partition core end"},
		{"memory major kernel partition partition", "region port partition core end"},
		{"memory major kernel channel partition core", "window core end"},
		{"memory major kernel core", "window core end"},
		{"memory major kernel core core", "window core end"},
		{"memory major kernel core window", "window core end"},
		{"memory major kernel core window window", "window core end"},
		{"memory major kernel core window core", "window core end"},
		{"memory major kernel core end", ""},
		{"memory major kernel end", ""},
	} {
		s := ""
		for _, first := range strings.Fields(x.ahead) {
			s += lines[first]
		}
		number := len(strings.Fields(x.ahead)) + 1
		for first, line := range lines {
			may := strings.Contains(" "+x.may+" ", " "+first+" ")
			_, at, e := text.Parse(s + line)
			switch {
			case !may && (e != api.ErrTextLine || at != number):
				t.Errorf("%q behind %q: line %d, error %d", first, x.ahead, at, e)
			case may && first == "end" && (e != api.OK || at != 0):
				t.Errorf("%q behind %q: line %d, error %d", first, x.ahead, at, e)
			case may && first != "end" && (e != api.ErrTextEnd || at != number+1):
				t.Errorf("%q behind %q: line %d, error %d", first, x.ahead, at, e)
			}
		}
		refuses(t, s+"none", number, api.ErrTextLine)
	}
}

// standing: what stands ahead of a line, so that it may come.
func standing(line string) string {
	switch strings.Fields(line)[0] {
	case "memory":
		return ""
	case "major":
		return "memory 1\n"
	case "kernel":
		return "memory 1\nmajor 2\n"
	case "region", "port":
		return head + partition
	case "window":
		return head + "core\n"
	}
	return head
}

// wrong asks for an error of one line that stands where it may come.
func wrong(t *testing.T, line string, e api.Errno) {
	t.Helper()
	ahead := standing(line)
	number := strings.Count(ahead, "\n") + 1
	refuses(t, ahead+line, number, e)
	refuses(t, "# so\n\n"+ahead+line+"\nnone of it", number+2, e)
}

// The table of the lines, one of each.
var whole = []string{
	"memory 5", "major 5", "kernel 5 6", "channel sampling 7", "channel queuing 7 8",
	"partition x-1 entry 1 action warm restarts 2 inputs 3 outputs 4",
	"region 1 2 3 rw", "port 4 source", "port 4 dest", "core", "window 1 2 3", "window none 2 3", "end",
}

// P12.1: a line has as many words as it must have, and a first word is written in no other way.
func TestNumberOfWords(t *testing.T) {
	for _, line := range whole {
		words := strings.Fields(line)
		ahead := standing(line)
		number := strings.Count(ahead, "\n") + 1
		for n := 1; n < len(words); n++ {
			wrong(t, strings.Join(words[:n], " "), api.ErrTextLine)
		}
		for _, more := range []string{"1", "x", "r", "none", words[len(words)-1], "1 2"} {
			if longer := line + " " + more; longer != "channel queuing 7 8" {
				wrong(t, longer, api.ErrTextLine)
			}
		}
		for _, first := range []string{strings.ToUpper(words[0]), words[0] + "s", words[0][1:], "x" + words[0], words[0] + "\x00", words[0] + "\u00a0", "\ufeff" + words[0], words[0] + ":"} {
			refuses(t, ahead+strings.Join(append([]string{first}, words[1:]...), " "), number, api.ErrTextLine)
		}
		if len(words) > 1 {
			refuses(t, ahead+strings.Join(words[1:], " "), number, api.ErrTextLine)
		}
	}
	wrong(t, "channel queuing 7", api.ErrTextLine)
	wrong(t, "channel sampling 7 8", api.ErrTextLine)
	wrong(t, "channel sampling 7 0", api.ErrTextLine)
	wrong(t, "channel queuing 7 8 9", api.ErrTextLine)
}

// P12.1: fixed words, actions and rights that are others are ErrTextLine, ahead of names and numbers that are none, wherever these stand in the line.
func TestFixedWords(t *testing.T) {
	for _, line := range []string{
		"channel 7", "channel Sampling 7", "channel sample 7", "channel queueing 7 8", "channel none 7", "channel 7 sampling", "channel 7 8 queuing", "channel sampling 7 x", "channel queuing x", "channel x x", "channel x x x",
		"partition a enter 0 action halt restarts 0 inputs 0 outputs 0",
		"partition a Entry 0 action halt restarts 0 inputs 0 outputs 0",
		"partition a entry 0 actions halt restarts 0 inputs 0 outputs 0",
		"partition a entry 0 action halt restart 0 inputs 0 outputs 0",
		"partition a entry 0 action halt restarts 0 input 0 outputs 0",
		"partition a entry 0 action halt restarts 0 inputs 0 output 0",
		"partition a entry 0 action halt restarts 0 outputs 0 inputs 0",
		"partition a action halt entry 0 restarts 0 inputs 0 outputs 0",
		"partition entry 0 action halt restarts 0 inputs 0 outputs 0",
		"partition a entry 0 action hot restarts 0 inputs 0 outputs 0",
		"partition a entry 0 action Halt restarts 0 inputs 0 outputs 0",
		"partition a entry 0 action 0 restarts 0 inputs 0 outputs 0",
		"partition a entry 0 action - restarts 0 inputs 0 outputs 0",
		"partition A entry x action hot restarts x inputs x outputs x",
		"partition A entry x action halt restarts x inputs x output x",
		"port 0 sources", "port 0 Source", "port 0 destination", "port 0 0", "port source 0", "port x sink", "port -1 x",
		"region 0 1 1 xr", "region 0 1 1 wr", "region 0 1 1 rxw", "region 0 1 1 rr", "region 0 1 1 rwxr", "region 0 1 1 -r", "region 0 1 1 r-", "region 0 1 1 --", "region 0 1 1 R", "region 0 1 1 7", "region 0 1 1 0", "region 0 1 1 none", "region 0 1 1 r\x00", "region x x x xr", "region 0 1 r 1", "region -1 -1 -1 rrr",
		"core 0", "core none", "end end", "end 0",
	} {
		wrong(t, line, api.ErrTextLine)
	}
}

// P12.1: A is one of the three.
func TestActions(t *testing.T) {
	for i, action := range []string{"halt", "warm", "cold"} {
		c := headed()
		c.Partitions = []api.Partition{{Name: "a", Action: i}}
		reads(t, head+strings.Replace(partition, "halt", action, 1)+"end", c)
	}
}

// P12.1: R is `-`, or letters in their order.
func TestRights(t *testing.T) {
	for rights, word := range []string{"-", "r", "w", "rw", "x", "rx", "wx", "rwx"} {
		c := headed()
		c.Partitions = []api.Partition{named()}
		c.Partitions[0].Regions = []api.Region{{Page: 1, Pages: 2, Frame: 3, Rights: rights}}
		reads(t, head+partition+"region 1 2 3 "+word+"\nend", c)
	}
}

// P12.1: a name has 1 to 16 bytes, small letters, digits and `-`, the first a letter.
func TestNames(t *testing.T) {
	line := func(name string) string { return strings.Replace(partition, " a ", " "+name+" ", 1) }
	for _, name := range []string{"a", "z", "a0", "a9", "a-", "a--", "lamp", "z-9-a", "entry", "partition", "none", strings.Repeat("m", mostName), "a" + strings.Repeat("-", mostName-1)} {
		c := headed()
		c.Partitions = []api.Partition{{Name: name}}
		reads(t, head+line(name)+"end", c)
		writes(t, c, head+line(name)+"end\n")
	}
	for _, name := range []string{"A", "aB", "0", "0a", "9", "-", "-a", "a_b", "a.b", "a/b", "a:", "`", "{", "a{", "a`", "a@", "ä", "aä", "a\xff", "\xff", "a\x00", "a\x0b", "a\u00a0b", strings.Repeat("m", mostName+1), strings.Repeat("m", 1000)} {
		wrong(t, strings.TrimSpace(line(name)), api.ErrTextName)
	}
}

// Every byte, as the first one and as a later one of a name, and beside a word.
func TestEveryByte(t *testing.T) {
	for n := range 256 {
		b := string([]byte{byte(n)})
		small := strings.Contains("abcdefghijklmnopqrstuvwxyz", b)
		later := small || strings.Contains("0123456789-", b)
		switch n {
		case '\n', '#':
			reads(t, head+b+"\nend"+b, headed())
			continue
		case ' ', '\t', '\r':
			reads(t, b+"memory"+b+"1"+b+head[len("memory 1"):]+b+"end"+b, headed())
			continue
		}
		refuses(t, head+"end"+b, 4, api.ErrTextLine)
		refuses(t, head+b+"end", 4, api.ErrTextLine)
		for name, ok := range map[string]bool{b + "m": small, "m" + b: later, "m" + b + "m": later} {
			s := head + strings.Replace(partition, " a ", " "+name+" ", 1) + "end"
			if !ok {
				refuses(t, s, 4, api.ErrTextName)
				continue
			}
			c := headed()
			c.Partitions = []api.Partition{{Name: name}}
			reads(t, s, c)
		}
		for _, number := range []string{b + "1", "1" + b, "1" + b + "1"} {
			if strings.Contains("0123456789", b) {
				k, _ := strconv.Atoi(number)
				c := headed()
				c.Frames = k
				reads(t, "memory "+number+head[len("memory 1"):]+"end", c)
				continue
			}
			refuses(t, "memory "+number, 1, api.ErrTextNumber)
		}
	}
}

// noNumbers: words that are no numbers.
var noNumbers = []string{
	"x", "-", "-1", "-0", "+1", "1x", "0x1", "1e1", "1.0", "1_0", "1,0", "'1'", "1-", "١", "1\x00", "\xff", "nonE", "None", "nones", "r",
	"2147483648", "2147483650", "2147483700", "3000000000", "9999999999", "4294967295", "4294967296", "4294967297", "9223372036854775807", "9223372036854775808", "18446744073709551615", "18446744073709551616", "18446744073709551617",
	"002147483648", strings.Repeat("9", 5000), "1" + strings.Repeat("0", 5000),
}

// P12.1: each N of each line is a number or ErrTextNumber, and so is each W; `none` is a W alone.
func TestNumbers(t *testing.T) {
	for _, line := range whole {
		words := strings.Fields(line)
		for i, word := range words {
			if _, err := strconv.Atoi(word); err != nil && word != "none" {
				continue
			}
			turned := func(to string) string {
				other := append([]string(nil), words...)
				other[i] = to
				return strings.Join(other, " ")
			}
			for _, bad := range noNumbers {
				wrong(t, turned(bad), api.ErrTextNumber)
			}
			if owner := words[0] == "window" && i == 1; !owner {
				wrong(t, turned("none"), api.ErrTextNumber)
			}
		}
	}
	for word, n := range map[string]int{
		"0": 0, "00": 0, "7": 7, "007": 7, "10": 10, "2147483647": mostNumber, "2147483646": mostNumber - 1, "1999999999": 1999999999, "0000000000000000000002147483647": mostNumber, strings.Repeat("0", 5000) + "9": 9, strings.Repeat("0", 5000): 0,
	} {
		c := api.Config{Frames: n, Major: n, Kernel: n, Room: n}
		c.Channels = []api.Channel{{Kind: 1, Words: n}, {Kind: 2, Words: n, Depth: n}}
		c.Partitions = []api.Partition{{Name: "a", Entry: n, Restarts: n, Inputs: n, Outputs: n, Regions: []api.Region{{Page: n, Pages: n, Frame: n}}, Ports: []api.Port{{Channel: n}}}}
		c.Cores = [][]api.Window{{{Partition: n, Usable: n, Slack: n}}}
		s := "memory N\nmajor N\nkernel N N\nchannel sampling N\nchannel queuing N N\npartition a entry N action halt restarts N inputs N outputs N\nregion N N N -\nport N dest\ncore\nwindow N N N\nend"
		s = strings.ReplaceAll(s, "N", word)
		if len(s) <= mostText {
			reads(t, s, c)
		}
	}
}

// P12.1: within a line, what is wrong is told word by word: a name that is none comes ahead of the numbers behind it; and the first line that is wrong is told, whatever is wrong with others.
func TestWhichIsFirst(t *testing.T) {
	wrong(t, "partition A entry x action halt restarts x inputs x outputs x", api.ErrTextName)
	wrong(t, "partition A entry 0 action halt restarts 0 inputs 0 outputs x", api.ErrTextName)
	wrong(t, "partition a entry 0 action halt restarts 0 inputs 0 outputs x", api.ErrTextNumber)
	wrong(t, "partition A entry x action halt restarts x inputs x outputs", api.ErrTextLine)
	wrong(t, "region x x x", api.ErrTextLine)
	wrong(t, "window x x", api.ErrTextLine)
	refuses(t, "memory x\nmajor", 1, api.ErrTextNumber)
	refuses(t, "memory 1\nmajor\nkernel x x", 2, api.ErrTextLine)
	refuses(t, "major x", 1, api.ErrTextLine)
	refuses(t, "memory 1\nmemory x", 2, api.ErrTextLine)
	refuses(t, head+"end\nmemory x", 5, api.ErrTextLine)
	refuses(t, head+"partition A entry 0 action halt restarts 0 inputs 0 outputs 0\nregion 0 0 0 xr", 4, api.ErrTextName)
	refuses(t, head+"core\nwindow -1 1 1", 5, api.ErrTextNumber)
	refuses(t, "memory 1\nmajor x", 2, api.ErrTextNumber) // nor is there an end
}

// P12.1: how many there are of each is not asked, nor whether they hold together.
func TestNothingElseIsAsked(t *testing.T) {
	c := headed()
	s := head
	for range 300 {
		c.Channels = append(c.Channels, api.Channel{Kind: 2, Words: mostNumber, Depth: mostNumber})
		s += "channel queuing 2147483647 2147483647\n"
	}
	for range 20 {
		p := named()
		s += partition
		for range 40 {
			p.Regions = append(p.Regions, api.Region{Page: 9, Pages: 0, Frame: 9, Rights: 0})
			s += "region 9 0 9 -\n"
		}
		for range 40 {
			p.Ports = append(p.Ports, api.Port{Channel: 999, Source: true})
			s += "port 999 source\n"
		}
		c.Partitions = append(c.Partitions, p)
	}
	for range 300 {
		c.Cores = append(c.Cores, []api.Window{{Partition: 77}, {Partition: -1}})
		s += "core\nwindow 77 0 0\nwindow none 0 0\n"
	}
	reads(t, s+"end", c)
}

// P12.2: what a line doesn't say is zero.
func TestWhatIsNotSaid(t *testing.T) {
	c := headed()
	c.Channels = []api.Channel{{Kind: 2, Words: 5, Depth: 6}, {Kind: 1, Words: 7, Depth: 0}, {Kind: 2, Words: 8, Depth: 9}, {Kind: 1, Words: 3, Depth: 0}}
	reads(t, head+"channel queuing 5 6\nchannel sampling 7\nchannel queuing 8 9\nchannel sampling 3\nend", c)
	c = headed()
	c.Partitions, c.Cores = []api.Partition{named(), named()}, [][]api.Window{{}, {{Partition: 1}}, {}}
	c.Partitions[0].Regions, c.Partitions[0].Ports = []api.Region{{Page: 1}}, []api.Port{{Channel: 1}}
	reads(t, head+partition+"region 1 0 0 -\nport 1 dest\n"+partition+"core\ncore\nwindow 1 0 0\ncore\nend", c)
}

// P12.5: blanks, comments and lines without words change nothing but the numbers of the lines.
func TestBlanksAndComments(t *testing.T) {
	for _, blank := range []string{" ", "\t", "\r", " \t\r \r\t"} {
		s := strings.ReplaceAll(exampleText, " ", blank)
		reads(t, s, example())
		reads(t, strings.ReplaceAll(s, "\n", blank+"\n"), example())
		reads(t, strings.ReplaceAll(s, "\n", "\n"+blank), example())
		reads(t, strings.ReplaceAll(s, "\n", "\n\n"+blank+"\n"), example())
		reads(t, blank+s, example())
		for _, comment := range []string{"#", "# so", "#end", "##", "# \xff\x00 # memory 1", "#\r"} {
			reads(t, strings.ReplaceAll(s, "\n", comment+"\n"), example())
			reads(t, strings.ReplaceAll(s, "\n", blank+comment+"\n"), example())
			reads(t, comment+"\n"+blank+comment+"\n"+strings.ReplaceAll(s, "\n", "\n"+comment+"\n")+comment, example())
			refuses(t, comment+"\n"+blank+"\n"+"memory"+blank+"x"+comment, 3, api.ErrTextNumber)
			refuses(t, "memory "+comment+" 1", 1, api.ErrTextLine)
			refuses(t, "mem"+comment+"ory 1", 1, api.ErrTextLine)
		}
		refuses(t, "mem"+blank+"ory 1", 1, api.ErrTextLine)
		refuses(t, "memory 1"+blank+"0", 1, api.ErrTextLine)
	}
	reads(t, strings.TrimSuffix(exampleText, "\n"), example())
	reads(t, strings.ReplaceAll(exampleText, "  ", ""), example())
	reads(t, strings.ReplaceAll(exampleText, "\n", "\r\n"), example())
	reads(t, exampleText+"# behind it\n \n\t\r\n#", example())
	refuses(t, exampleText+"# behind it\n \nx", 19, api.ErrTextLine)
	refuses(t, "memory 1 major 2 kernel 3 4 end", 1, api.ErrTextLine)
	refuses(t, "memory\n1\nmajor 2\nkernel 3 4\nend", 1, api.ErrTextLine)
	refuses(t, "memory 1\rmajor 2\rkernel 3 4\rend", 1, api.ErrTextLine)
}

// R5: no two lists of one answer share memory, nor do two answers: what is put behind the end of one is seen in no other.
func TestListsOfAnAnswer(t *testing.T) {
	s := head + partition + "region 1 1 1 r\nregion 2 2 2 r\nregion 3 3 3 r\nport 1 dest\nport 2 dest\nport 3 dest\n" + partition + "region 4 4 4 r\nport 4 dest\ncore\nwindow 1 1 1\nwindow 2 2 2\nwindow 3 3 3\ncore\nwindow 4 4 4\nend"
	a, _, _ := text.Parse(s)
	b, _, _ := text.Parse(s)
	for i := range a.Partitions {
		p := &a.Partitions[i]
		for j := range p.Regions[:cap(p.Regions)] {
			p.Regions[:cap(p.Regions)][j].Page = 99
		}
		for j := range p.Ports[:cap(p.Ports)] {
			p.Ports[:cap(p.Ports)][j].Channel = 99
		}
		c, _, _ := text.Parse(s)
		if !same(b, c) {
			t.Fatalf("another answer has changed: %+v", b)
		}
		if i == 0 && (!reflect.DeepEqual(a.Partitions[1], b.Partitions[1]) || !reflect.DeepEqual(a.Cores, b.Cores)) {
			t.Errorf("another list has changed: %+v", a)
		}
	}
	for j := range a.Cores[0][:cap(a.Cores[0])] {
		a.Cores[0][:cap(a.Cores[0])][j].Usable = 99
	}
	if !reflect.DeepEqual(a.Cores[1], b.Cores[1]) {
		t.Errorf("another list has changed: %+v", a)
	}
}

// R5: a name is no piece of the text.
func TestNameIsNew(t *testing.T) {
	c, _, _ := text.Parse(exampleText)
	begin := uintptr(unsafe.Pointer(unsafe.StringData(exampleText)))
	for _, p := range c.Partitions {
		if at := uintptr(unsafe.Pointer(unsafe.StringData(p.Name))); at >= begin && at < begin+uintptr(len(exampleText)) {
			t.Errorf("%q lies within the text", p.Name)
		}
	}
}
