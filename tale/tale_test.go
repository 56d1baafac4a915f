package tale_test

import (
	"errors"
	"strings"
	"sync"
	"testing"

	"bulkhead/api"
	"bulkhead/tale"
)

// small is the configuration of one partition on one core; it takes the lines 1 to 9 of a script.
const small = `config
memory 16
major 400
kernel 8 4
partition a entry 0 action halt restarts 0 inputs 1 outputs 1
  region 0 1 2 rwx
core
  window 0 300 100
end
`

// pair is the configuration of two partitions on two cores, with a channel of each kind between them; it takes the lines 1 to 20 of a script.
const pair = `config
memory 16
major 364
kernel 4 12
channel sampling 2
channel queuing 1 2
partition first entry 0 action warm restarts 2 inputs 2 outputs 2
  region 0 1 0 rwx
  port 0 source
  port 1 dest
partition second entry 0 action cold restarts 1 inputs 0 outputs 1
  region 0 2 1 rwx
  port 0 dest
  port 1 source
core
  window 0 100 82
  window 0 100 82
core
  window 1 200 164
end
`

// tells asks for a transcript's end.
func tells(t *testing.T, script, want string) {
	t.Helper()
	got, err := tale.Run(script)
	if err != nil || !strings.HasSuffix(got, want) {
		t.Errorf("%.300s: %v\n%.3000s\nwant\n%.3000s", script, err, got, want)
	}
}

// refuses asks for a fault.
func refuses(t *testing.T, script string, line int, why api.Errno) {
	t.Helper()
	got, err := tale.Run(script)
	f, is := err.(*tale.Fault)
	if got != "" || !is || f.Line != line || f.Why != error(why) {
		t.Errorf("%.60q..%.80q: %.60q, %v; want line %d: %v", script, script[max(0, len(script)-80):], got, err, line, why)
	}
}

// P32.1: a script of no commands tells nothing.
func TestNothing(t *testing.T) {
	for _, script := range []string{"", "\n", "\n\n\n", " \t\r", "# a comment", "  # config\n\t#\n#", "\r\n\r\n"} {
		got, err := tale.Run(script)
		if got != "" || err != nil {
			t.Errorf("%q: %q, %v", script, got, err)
		}
	}
}

// P32.1: blanks, comments and lines without words say nothing; a program's comments are its own.
func TestBlanks(t *testing.T) {
	want := `> config
  cores 1 partitions 1 channels 0
> program 0
  words 2
> feed 0 00 7 8
> feed 0 1
> program 1
`
	script := "\n # ahead\n\tconfig\t# here\r\n memory 16 # end\n\nmajor\t400\nkernel 8 8 #\n" +
		"partition a entry 0 action halt restarts 0 inputs 2 outputs 1\nregion 0 1 2 rwx\npartition b entry 0 action halt restarts 0 inputs 2 outputs 1\nregion 0 1 3 rwx\n" +
		"core\nwindow 0 300 100\n#end\n \tend\r # the end\r\n" +
		"\tprogram \t 0#of it\r\nnop ; done\n\n; end\ndone:nop\n \t done \r\n" +
		"   feed 0\t00\r7  8#9\n#boot\nfeed 0 1# 2\nprogram 1\ndone\n  \t#"
	want = strings.Replace(want, "partitions 1", "partitions 2", 1) + "  words 0\n"
	got, err := tale.Run(script)
	if err != nil || got != want {
		t.Errorf("%v\n%s", err, got)
	}
}

// P32.1: bytes that are no blanks stand within words, whatever they are elsewhere.
func TestNoBlanks(t *testing.T) {
	for _, blank := range []string{"\v", "\f", "\x00", "\u0085", "\u00a0", "\u2003", "\u3000", "\xff", "\xc2", ";", ","} {
		refuses(t, small+"boot\nstep"+blank+"0", 11, api.ErrTaleLine)
		refuses(t, small+"boot\nstep 0"+blank, 11, api.ErrTaleLine)
		refuses(t, small+"boot\n"+blank, 11, api.ErrTaleLine)
		refuses(t, small+"program 0\ndone"+blank, 10, api.ErrTaleLine)
		refuses(t, strings.Replace(small, "\nend", "\nend"+blank, 1), 1, api.ErrTaleLine)
	}
}

// P32.1: what a Fault tells.
func TestFault(t *testing.T) {
	_, err := tale.Run("\nboot")
	if err == nil || err.Error() != "line 2: error 321" || errors.Unwrap(err) != error(api.ErrTaleState) || !errors.Is(err, api.ErrTaleState) || errors.Is(err, api.ErrTaleLine) {
		t.Error(err)
	}
	var why api.Errno
	if !errors.As(err, &why) || why != api.ErrTaleState {
		t.Error(why)
	}
	_, err = tale.Run(strings.Repeat("\n", api.MaxText+1))
	if err == nil || err.Error() != "line 0: error 2" {
		t.Error(err)
	}
	other := errors.New("of another kind")
	for _, x := range []struct {
		fault *tale.Fault
		told  string
		why   error
	}{
		{&tale.Fault{Line: 7, Why: api.ErrAsmLine}, "line 7: error 40", api.ErrAsmLine},
		{&tale.Fault{Line: -1, Why: other}, "line -1: of another kind", other},
		{&tale.Fault{Line: 12}, "line 12: ", nil},
		{nil, "", nil},
	} {
		if x.fault.Error() != x.told || x.fault.Unwrap() != x.why {
			t.Errorf("%q, %v; want %q", x.fault.Error(), x.fault.Unwrap(), x.told)
		}
	}
}

// P32.3: two runs of one script tell the same, side by side too.
func TestAgain(t *testing.T) {
	for _, x := range append(examples(), example{what: "refused", script: pair + "boot\nrun 2\nrun 9"}) {
		first, err := tale.Run(x.script)
		var all sync.WaitGroup
		for range 8 {
			all.Add(1)
			go func() {
				defer all.Done()
				again, fault := tale.Run(x.script)
				if again != first || (err == nil) != (fault == nil) || err != nil && err.Error() != fault.Error() {
					t.Errorf("%s: %v, %v\n%s\n%s", x.what, err, fault, first, again)
				}
			}()
		}
		all.Wait()
	}
}

// P32.3: a script that is cut off behind a line, but within a configuration or a program, tells the beginning of what the whole tells.
func TestCutOff(t *testing.T) {
	for _, x := range examples() {
		whole, _ := tale.Run(x.script)
		lines, within, cuts := strings.SplitAfter(x.script, "\n"), "", 0
		for i, line := range lines {
			switch word := strings.TrimSpace(line); {
			case word == "config":
				within = "end"
			case strings.HasPrefix(word, "program "):
				within = "done"
			case word == within:
				within = ""
			}
			if within != "" {
				continue
			}
			for _, end := range []string{"", "#", "\n\n"} {
				part, err := tale.Run(strings.Join(lines[:i+1], "") + end)
				if err != nil || !strings.HasPrefix(whole, part) {
					t.Errorf("%s: behind line %d: %v\n%s", x.what, i+1, err, part)
				}
				bare, err := tale.Run(strings.TrimSuffix(strings.Join(lines[:i+1], ""), "\n"))
				if err != nil || bare != part {
					t.Errorf("%s: in front of the end of line %d: %v\n%s", x.what, i+1, err, part)
				}
			}
			cuts++
		}
		if cuts < 4 {
			t.Errorf("%s: %d cuts", x.what, cuts)
		}
	}
}
