package text_test

import (
	"fmt"
	"math/rand/v2"
	"regexp"
	"strconv"
	"strings"
	"testing"

	"bulkhead/api"
	"bulkhead/text"
)

// Patterns that say the chapter's table anew. In each line's pattern any word stands for a name or a number: these are asked behind it, group by group.
const (
	anyWord = `([^ ]+)`
	action  = `(halt|warm|cold)`
	rights  = `(-|r?w?x?)`
)

var (
	lineOf = map[byte]*regexp.Regexp{
		'm': regexp.MustCompile(`^(memory) ` + anyWord + `$`),
		'f': regexp.MustCompile(`^(major) ` + anyWord + `$`),
		'k': regexp.MustCompile(`^(kernel) ` + anyWord + ` ` + anyWord + `$`),
		's': regexp.MustCompile(`^(channel) (?:sampling ` + anyWord + `|queuing ` + anyWord + ` ` + anyWord + `)$`),
		'p': regexp.MustCompile(`^(partition) ` + anyWord + ` entry ` + anyWord + ` action ` + action + ` restarts ` + anyWord + ` inputs ` + anyWord + ` outputs ` + anyWord + `$`),
		'r': regexp.MustCompile(`^(region) ` + anyWord + ` ` + anyWord + ` ` + anyWord + ` ` + rights + `$`),
		'q': regexp.MustCompile(`^(port) ` + anyWord + ` (source|dest)$`),
		'c': regexp.MustCompile(`^(core)$`),
		'w': regexp.MustCompile(`^(window) ` + anyWord + ` ` + anyWord + ` ` + anyWord + `$`),
		'e': regexp.MustCompile(`^(end)$`),
	}
	letterOf = map[string]byte{"memory": 'm', "major": 'f', "kernel": 'k', "channel": 's', "partition": 'p', "region": 'r', "port": 'q', "core": 'c', "window": 'w', "end": 'e'}
	begun    = regexp.MustCompile(`^(m(f(ks*(pr*q*)*(cw*)*e?)?)?)?$`)
	done     = regexp.MustCompile(`e$`)
	name     = regexp.MustCompile(`^[a-z][a-z0-9-]{0,15}$`)
	number   = regexp.MustCompile(`^0*[0-9]{1,10}$`)
	comment  = regexp.MustCompile(`#.*`)
	blanks   = regexp.MustCompile("[ \t\r]+")
)

func numberBy(word string) (int, bool) {
	if !number.MatchString(word) {
		return 0, false
	}
	n, err := strconv.ParseInt(strings.TrimLeft(word, "0"), 10, 64)
	if err != nil { // nothing but noughts
		n = 0
	}
	return int(n), n <= mostNumber
}

// parseBy reads a text by the patterns.
func parseBy(s string) (c api.Config, line int, e api.Errno) {
	if len(s) > mostText {
		return api.Config{}, 0, api.ErrLong
	}
	row := ""
	for i, l := range strings.Split(s, "\n") {
		l = strings.Trim(blanks.ReplaceAllString(comment.ReplaceAllString(l, ""), " "), " ")
		if l == "" {
			continue
		}
		first, _, _ := strings.Cut(l, " ")
		letter, ok := letterOf[first]
		if !ok || !begun.MatchString(row+string(letter)) {
			return api.Config{}, i + 1, api.ErrTextLine
		}
		row += string(letter)
		got := lineOf[letter].FindStringSubmatch(l)
		if got == nil {
			return api.Config{}, i + 1, api.ErrTextLine
		}
		if e := sayBy(&c, letter, got[2:]); e != api.OK {
			return api.Config{}, i + 1, e
		}
	}
	if !done.MatchString(row) {
		return api.Config{}, strings.Count(s, "\n") + 1, api.ErrTextEnd
	}
	return c, 0, api.OK
}

// sayBy takes over what a line says.
func sayBy(c *api.Config, letter byte, got []string) api.Errno {
	fault := api.OK
	n := func(i int) int {
		k, ok := numberBy(got[i])
		if !ok && fault == api.OK {
			fault = api.ErrTextNumber
		}
		return k
	}
	switch letter {
	case 'm':
		c.Frames = n(0)
	case 'f':
		c.Major = n(0)
	case 'k':
		c.Kernel, c.Room = n(0), n(1)
	case 's':
		if got[0] != "" {
			c.Channels = append(c.Channels, api.Channel{Kind: 1, Words: n(0)})
		} else {
			c.Channels = append(c.Channels, api.Channel{Kind: 2, Words: n(1), Depth: n(2)})
		}
	case 'p':
		if !name.MatchString(got[0]) {
			return api.ErrTextName
		}
		actions := map[string]int{"halt": 0, "warm": 1, "cold": 2}
		c.Partitions = append(c.Partitions, api.Partition{Name: got[0], Entry: n(1), Action: actions[got[2]], Restarts: n(3), Inputs: n(4), Outputs: n(5)})
	case 'r':
		bits := 0
		for i, right := range []string{"r", "w", "x"} {
			bits += strings.Count(got[3], right) << i
		}
		p := &c.Partitions[len(c.Partitions)-1]
		p.Regions = append(p.Regions, api.Region{Page: n(0), Pages: n(1), Frame: n(2), Rights: bits})
	case 'q':
		p := &c.Partitions[len(c.Partitions)-1]
		p.Ports = append(p.Ports, api.Port{Channel: n(0), Source: got[1] == "source"})
	case 'c':
		c.Cores = append(c.Cores, []api.Window{})
	case 'w':
		x := api.Window{Partition: -1}
		if got[0] != "none" {
			x.Partition = n(0)
		}
		x.Usable, x.Slack = n(1), n(2)
		last := len(c.Cores) - 1
		c.Cores[last] = append(c.Cores[last], x)
	}
	return fault
}

// printBy writes a configuration with which nothing is wrong.
func printBy(c api.Config) string {
	s := fmt.Sprintf("memory %d\nmajor %d\nkernel %d %d\n", c.Frames, c.Major, c.Kernel, c.Room)
	for _, x := range c.Channels {
		if x.Kind == 1 {
			s += fmt.Sprintf("channel sampling %d\n", x.Words)
		} else {
			s += fmt.Sprintf("channel queuing %d %d\n", x.Words, x.Depth)
		}
	}
	for _, p := range c.Partitions {
		s += fmt.Sprintf("partition %s entry %d action %s restarts %d inputs %d outputs %d\n", p.Name, p.Entry, []string{"halt", "warm", "cold"}[p.Action], p.Restarts, p.Inputs, p.Outputs)
		for _, r := range p.Regions {
			s += fmt.Sprintf("  region %d %d %d %s\n", r.Page, r.Pages, r.Frame, []string{"-", "r", "w", "rw", "x", "rx", "wx", "rwx"}[r.Rights])
		}
		for _, q := range p.Ports {
			s += fmt.Sprintf("  port %d %s\n", q.Channel, map[bool]string{false: "dest", true: "source"}[q.Source])
		}
	}
	for _, windows := range c.Cores {
		s += "core\n"
		for _, x := range windows {
			s += strings.ReplaceAll(fmt.Sprintf("  window %d %d %d\n", x.Partition, x.Usable, x.Slack), "-1", "none")
		}
	}
	return s + "end\n"
}

type dice struct{ *rand.Rand }

func seeded(seed uint64) dice { return dice{rand.New(rand.NewPCG(12, seed))} }

func (d dice) number() int {
	switch d.IntN(4) {
	case 0:
		return d.IntN(3)
	case 1:
		return mostNumber - d.IntN(3)
	case 2:
		return d.IntN(mostNumber)
	}
	return d.IntN(1000)
}

func (d dice) name() string {
	const later = "abcdefghijklmnopqrstuvwxyz0123456789-"
	s := string(later[d.IntN(26)])
	for range d.IntN(mostName) {
		s += string(later[d.IntN(len(later))])
	}
	return s
}

func (d dice) config() api.Config {
	c := api.Config{Frames: d.number(), Major: d.number(), Kernel: d.number(), Room: d.number()}
	for range d.IntN(4) {
		x := api.Channel{Kind: 1 + d.IntN(2), Words: d.number()}
		if x.Kind == 2 {
			x.Depth = d.number()
		}
		c.Channels = append(c.Channels, x)
	}
	for range d.IntN(4) {
		p := api.Partition{Name: d.name(), Entry: d.number(), Action: d.IntN(3), Restarts: d.number(), Inputs: d.number(), Outputs: d.number()}
		for range d.IntN(3) {
			p.Regions = append(p.Regions, api.Region{Page: d.number(), Pages: d.number(), Frame: d.number(), Rights: d.IntN(8)})
		}
		for range d.IntN(3) {
			p.Ports = append(p.Ports, api.Port{Channel: d.number(), Source: d.IntN(2) == 1})
		}
		c.Partitions = append(c.Partitions, p)
	}
	for range d.IntN(4) {
		var windows []api.Window
		for range d.IntN(4) {
			x := api.Window{Partition: -1, Usable: d.number(), Slack: d.number()}
			if d.IntN(3) > 0 {
				x.Partition = d.number()
			}
			windows = append(windows, x)
		}
		c.Cores = append(c.Cores, windows)
	}
	return c
}

// spoil turns a few words or lines of a text into others, mostly into such as could stand there.
func (d dice) spoil(s string) string {
	words := []string{"memory", "major", "kernel", "channel", "sampling", "queuing", "partition", "entry", "action", "halt", "warm", "cold", "restarts", "inputs", "outputs", "region", "port", "source", "dest", "core", "window", "none", "end", "-", "r", "rw", "wr", "rwx", "0", "007", "2147483647", "2147483648", "-1", "x", "radio", "Radio", "a-", "#", "\xff", "\u00a0", "ä", "aaaaaaaaaaaaaaaaa"}
	lines := strings.Split(s, "\n")
	for range d.IntN(3) {
		i, j := d.IntN(len(lines)), d.IntN(len(lines))
		switch d.IntN(8) {
		case 7:
			lines[i] = strings.Replace(lines[i], " entry", []string{"X", "-", "_", "mmmmmmmmmmmm"}[d.IntN(4)]+" entry", 1)
		case 0:
			lines[i], lines[j] = lines[j], lines[i]
		case 1:
			lines[i] = lines[j]
		case 2:
			lines[i] = ""
		default:
			in := strings.Split(lines[i], " ")
			k := d.IntN(len(in))
			switch d.IntN(4) {
			case 0:
				in[k] = ""
			case 1:
				in[k] += " " + words[d.IntN(len(words))]
			default:
				in[k] = words[d.IntN(len(words))]
			}
			lines[i] = strings.Join(in, " ")
		}
	}
	return strings.Join(lines, "\n")
}

// loosen puts blanks, comments and lines without words where they change nothing.
func (d dice) loosen(s string) string {
	out := ""
	blank := func() string { return strings.Repeat([]string{" ", "\t", "\r", " \t"}[d.IntN(4)], 1+d.IntN(2)) }
	for line := range strings.SplitSeq(s, "\n") {
		for range d.IntN(2) {
			out += []string{"", " ", "\t\r", "# memory 1", " #"}[d.IntN(5)] + "\n"
		}
		for word := range strings.FieldsFuncSeq(line, func(r rune) bool { return strings.ContainsRune(" \t\r", r) }) {
			if d.IntN(2) == 0 {
				out += blank()
			}
			out += word + blank()
		}
		out += []string{"", "#", "# end", "#\xff"}[d.IntN(4)] + "\n"
	}
	return out
}

// P12.3, P12.4: random configurations there and back.
func TestRandomConfigurations(t *testing.T) {
	d := seeded(1)
	for range 4000 {
		c := d.config()
		want := printBy(c)
		writes(t, c, want)
		reads(t, want, c)
	}
}

// P12.1, P12.5: random texts, spoilt and loosened, are read as the patterns read them.
func TestRandomTexts(t *testing.T) {
	d := seeded(2)
	told := map[api.Errno]int{}
	for range 12000 {
		s := d.spoil(printBy(d.config()))
		if d.IntN(2) == 0 {
			s = d.loosen(s)
		}
		want, wantLine, wantE := parseBy(s)
		got, line, e := text.Parse(s)
		if e != wantE || line != wantLine || !same(got, want) {
			t.Fatalf("%q: %+v, line %d, error %d; want %+v, line %d, error %d", s, got, line, e, want, wantLine, wantE)
		}
		told[e]++
		if e != api.OK {
			continue
		}
		again, e := text.Print(got)
		if e != api.OK || again != printBy(got) {
			t.Fatalf("%q: %q, error %d", s, again, e)
		}
	}
	for _, e := range []api.Errno{api.OK, api.ErrTextLine, api.ErrTextName, api.ErrTextNumber, api.ErrTextEnd} {
		if told[e] < 30 {
			t.Errorf("error %d was told %d times: the texts ask too little of it", e, told[e])
		}
	}
}

// P12.5: a text that is loosened says the same, and what is wrong stays wrong.
func TestLoosened(t *testing.T) {
	d := seeded(3)
	for range 3000 {
		s := d.spoil(printBy(d.config()))
		c, _, e := text.Parse(s)
		if got, _, gotE := text.Parse(d.loosen(s)); gotE != e || !same(got, c) {
			t.Fatalf("%q: %+v, error %d; loosened %+v, error %d", s, c, e, got, gotE)
		}
	}
}

// R1: bytes without any plan.
func TestBytesWithoutPlan(t *testing.T) {
	d := seeded(4)
	const bytes = "memory 1\n\r\t#major2kernel34end\xff\x00"
	for range 20000 {
		b := make([]byte, d.IntN(60))
		for i := range b {
			b[i] = bytes[d.IntN(len(bytes))]
		}
		want, wantLine, wantE := parseBy(string(b))
		if got, line, e := text.Parse(string(b)); e != wantE || line != wantLine || !same(got, want) {
			t.Fatalf("%q: %+v, line %d, error %d; want %+v, line %d, error %d", b, got, line, e, want, wantLine, wantE)
		}
	}
}
