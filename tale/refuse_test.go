package tale_test

import (
	"strings"
	"testing"

	"bulkhead/api"
)

// A way to write a command, and where it may come: ahead of the configuration, behind it, behind the boot, behind the first save.
type way struct {
	words string
	may   [4]api.Errno
}

const (
	line  = api.ErrTaleLine
	state = api.ErrTaleState
)

// Every command in every place, rightly written; and the errors that the layers below tell of it there, if it may come.
func ways() []way {
	return []way{
		{"config\nend", [4]api.Errno{api.ErrTextLine, state, state, state}},
		{"program 0\ndone", [4]api.Errno{line, 0, state, state}},
		{"feed 0 0", [4]api.Errno{line, 0, state, state}},
		{"feed 0 0 1 2 3", [4]api.Errno{line, 0, state, state}},
		{"boot", [4]api.Errno{state, 0, state, state}},
		{"step 0", [4]api.Errno{line, state, 0, 0}},
		{"step 0 3", [4]api.Errno{line, state, 0, 0}},
		{"round", [4]api.Errno{state, state, 0, 0}},
		{"round 3", [4]api.Errno{state, state, 0, 0}},
		{"run", [4]api.Errno{state, state, 0, 0}},
		{"run 3", [4]api.Errno{state, state, 0, 0}},
		{"run 9", [4]api.Errno{state, state, api.ErrCrewEpochs, api.ErrCrewEpochs}},
		{"cores", [4]api.Errno{state, state, 0, 0}},
		{"partitions", [4]api.Errno{state, state, 0, 0}},
		{"epoch", [4]api.Errno{state, state, 0, 0}},
		{"seen 0", [4]api.Errno{line, state, 0, 0}},
		{"outs 0", [4]api.Errno{line, state, 0, 0}},
		{"events 0", [4]api.Errno{line, state, 0, 0}},
		{"words 0 1", [4]api.Errno{state, state, 0, 0}},
		{"words 256 1", [4]api.Errno{state, state, api.ErrMemAt, api.ErrMemAt}},
		{"audit", [4]api.Errno{state, state, 0, 0}},
		{"solo 0 1", [4]api.Errno{line, state, 0, 0}},
		{"solo 0 9", [4]api.Errno{line, state, api.ErrSoloEpochs, api.ErrSoloEpochs}},
		{"save", [4]api.Errno{state, state, 0, 0}},
		{"load", [4]api.Errno{state, state, state, 0}},
	}
}

// P32.1: each command in each place: behind which it may come, and by which error it is refused elsewhere.
func TestPlaces(t *testing.T) {
	for _, x := range ways() {
		for i, ahead := range []string{"", small, small + "boot\n", small + "boot\nsave\n"} {
			script := ahead + x.words + "\n"
			if x.may[i] == api.OK {
				tells(t, script, "")
				continue
			}
			at := strings.Count(ahead, "\n") + 1
			if x.may[i] == api.ErrTextLine {
				at++
			}
			refuses(t, script, at, x.may[i])
		}
	}
}

// P32.1: what may come once comes once; what may come often comes often.
func TestOnce(t *testing.T) {
	refuses(t, pair+"program 1\ndone\nprogram 0\ndone\nprogram 1\ndone", 25, state)
	refuses(t, pair+"program 1\ndone\nprogram 0\ndone\nprogram 0\nno program\ndone", 25, state)
	refuses(t, pair+"boot\nprogram 1\nno program\ndone", 22, state)
	refuses(t, pair+pair, 21, state)
	refuses(t, pair+"config\nno configuration\nend", 21, state)
	tells(t, pair+"feed 0 0\nfeed 0 1\nfeed 1 0\nprogram 1\ndone\nfeed 0 2\nboot\nsave\nload\nload\nsave\nload\nsave\nsave\n", "> save\n> save\n")
	refuses(t, pair+"boot\nload\nsave", 22, state)
}

// P32.1: what a command has of words: none less, none more, and numbers where numbers must be.
func TestWords(t *testing.T) {
	ahead := small + "boot\nsave\n"
	for _, words := range []string{
		"config 0\nend", "config x\nend", "boot 0", "cores 0", "partitions 0", "epoch 0", "audit 0", "save 0", "load 0", "load x",
		"program\ndone", "program 0 0\ndone", "program x\ndone", "feed", "feed 0", "feed x 0", "feed 0 x", "feed 0 0 x", "feed 0 0 1 2 x 3",
		"step", "step x", "step 0 x", "step 0 1 1", "round x", "round 1 1", "run x", "run 1 1",
		"seen", "seen 0 0", "seen x", "outs", "outs 0 0", "outs x", "events", "events 0 0", "events x",
		"words", "words 0", "words 0 0 0", "words x 0", "words 0 x", "solo", "solo 0", "solo 0 1 1", "solo x 1", "solo 0 x",
		"nothing", "Config\nend", "BOOT", "Boot", "boots", "boo", "end", "done", "memory 1", "nop", "0", "-", ">", "> boot", ";", "config;", "step0", "seen,0", "\x00", "é",
	} {
		refuses(t, ahead+words+"\n", 12, line)
		refuses(t, "\n"+words+"\nboot", 2, line)
	}
}

// P32.1: what a number is, and how great it may be.
func TestNumbers(t *testing.T) {
	ahead := small + "boot\n"
	for _, number := range []string{"-1", "-0", "+1", "0x1", "1_0", "1.0", "1e0", "0b1", "0o1", "１", "1,", "none", "2147483648", "4294967295", "4294967296", "4294967297", "18446744073709551616", strings.Repeat("9", 5000), "1" + strings.Repeat("0", 5000)} {
		for _, command := range []string{"step 0 N", "round N", "run N", "words N 0", "words 0 N", "solo 0 N", "step N", "seen N", "outs N", "events N", "solo N 0"} {
			refuses(t, ahead+strings.Replace(command, "N", number, 1), 11, line)
		}
		for _, command := range []string{"program N\ndone", "feed N 0", "feed 0 N"} {
			refuses(t, small+strings.Replace(command, "N", number, 1), 10, line)
		}
		if number != "2147483648" && number != "4294967295" {
			refuses(t, small+"feed 0 0 "+number, 10, line)
			refuses(t, small+"feed 0 0 1 "+number+" 1", 10, line)
		}
	}
	tells(t, ahead+"step 000 0001", "> step 000 0001\n  core 0 run\n")
	tells(t, ahead+"words "+strings.Repeat("0", 4000)+"255 01", "255 01\n  255: 0\n")
	tells(t, strings.Replace(small, "inputs 1", "inputs 4", 1)+"feed 00 1073741823 4294967295 2147483648 00 04294967295\nboot\n", "> feed 00 1073741823 4294967295 2147483648 00 04294967295\n> boot\n")
}

// P32.1: how great the numbers of each command may be, and by which error one more is refused.
func TestBounds(t *testing.T) {
	ahead := pair + "boot\n"
	for _, x := range []struct {
		words string
		why   api.Errno
	}{
		{"step 1", 0}, {"step 2", line}, {"step 2147483647", line}, {"step 1 0", 0}, {"step 1 65536", api.ErrLong}, {"step 1 65537", line}, {"step 2 65537", line}, {"step 1 2147483647", line},
		{"round 0", 0}, {"round 65536", 0}, {"round 65537", line}, {"round 2147483647", line},
		{"run 0", api.ErrCrewEpochs}, {"run 1", 0}, {"run 8", 0}, {"run 9", api.ErrCrewEpochs}, {"run 65537", api.ErrCrewEpochs}, {"run 2147483647", api.ErrCrewEpochs},
		{"seen 1", 0}, {"seen 2", line}, {"seen 2147483647", line}, {"outs 1", 0}, {"outs 2", line}, {"events 1", 0}, {"events 2", line},
		{"words 0 0", 0}, {"words 256 0", 0}, {"words 257 0", api.ErrMemAt}, {"words 192 64", 0}, {"words 193 64", api.ErrMemAt}, {"words 0 65", line}, {"words 257 65", line}, {"words 0 2147483647", line}, {"words 2147483647 0", api.ErrMemAt}, {"words 2147483647 64", api.ErrMemAt},
		{"solo 1 0", 0}, {"solo 1 8", 0}, {"solo 1 9", api.ErrSoloEpochs}, {"solo 1 2147483647", api.ErrSoloEpochs}, {"solo 2 0", line}, {"solo 2 9", line},
	} {
		if x.why == api.OK {
			tells(t, ahead+x.words, "")
		} else {
			refuses(t, ahead+x.words, 22, x.why)
		}
	}
	for _, words := range []string{"program 2\ndone", "program 8\ndone", "feed 2 0", "feed 2147483647 0"} {
		refuses(t, pair+words, 21, line)
	}
}

// P32.1: a configuration's faults are told at their lines, or at its last one.
func TestConfigFaults(t *testing.T) {
	for _, x := range []struct {
		script string
		line   int
		why    api.Errno
	}{
		{"config", 1, line}, {"config\n", 1, line}, {"config\nmemory x", 1, line}, {"\n\nconfig\n\nend end", 3, line}, {"config end", 1, line}, {"config\nend 0", 1, line}, {"config\n# end\nEnd\nends", 1, line},
		{"config\nend", 2, api.ErrTextLine}, {"\n#\nconfig # it\n\n\nend # it", 6, api.ErrTextLine},
		{"config\nmemory 1\nmajor x\nkernel\nend\nboot", 3, api.ErrTextNumber}, {"config\nmemory 1\nmajor 1\nkernel 1\nend", 4, api.ErrTextLine},
		{strings.Replace(small, "partition a", "partition A", 1), 5, api.ErrTextName},
		{strings.Replace(small, "partition a", "\n# a\npartition A", 1), 7, api.ErrTextName},
		{strings.Replace(small, "window 0", "window -1", 1), 8, api.ErrTextNumber},
		{strings.Replace(small, "core", "end\ncore", 1), 7, api.ErrAdmitCores},
		{strings.Replace(small, "memory 16", "memory 0", 1), 9, api.ErrAdmitFrames},
		{"\n" + strings.Replace(small, "\nend", "\n\n\nend # here", 1) + "nothing", 12, api.ErrAdmitTiles},
		{strings.Replace(small, "kernel 8 4", "kernel 2 4", 1), 9, api.ErrAdmitKernel},
		{strings.Replace(small, "window 0 300 100", "window 0 318 82\nwindow 0 1 81", 1), 10, api.ErrAdmitSlack},
	} {
		if x.why == api.ErrAdmitTiles {
			x.script = strings.Replace(x.script, "major 400", "major 401", 1)
		}
		refuses(t, x.script, x.line, x.why)
	}
}

// P32.1: a program's faults are told at their lines.
func TestProgramFaults(t *testing.T) {
	for _, x := range []struct {
		lines string
		line  int
		why   api.Errno
	}{
		{"program 0", 10, line}, {"program 0\nnop", 10, line}, {"program 0\ndone ; it", 10, line}, {"program 0\ndone # it", 10, line}, {"program 0\ndone done", 10, line}, {"program 0\nDone\nend\ndone:\n;done\n#done", 10, line},
		{"\nprogram 0\nbad\ndone", 12, api.ErrAsmLine}, {"program 0\n\n\nnop\n nop nop\nbad\ndone", 14, api.ErrAsmLine}, {"program 0\nnop\n# nop\ndone", 12, api.ErrAsmLine}, {"program 0\nnop#\ndone", 11, api.ErrAsmLine},
		{"program 0 # it\nx: nop\nx: nop\ndone", 12, api.ErrAsmName}, {"program 0\nli r1, 1x\ndone", 11, api.ErrAsmNumber}, {"program 0\njmp y\nnop\nx: nop\ndone", 11, api.ErrAsmLabel}, {"program 0\njmp y\nbad\ndone", 12, api.ErrAsmLine},
		{"program 0\nli r1, 131072\ndone", 11, api.ErrAsmReach}, {"program 0\nspace 1024\nnop\ndone", 12, api.ErrAsmLong},
		{"program 0\nspace 17\ndone\n\nboot", 14, api.ErrBootProgram}, {"program 0\nspace 17\ndone\nfeed 0 0 1 2\nboot", 14, api.ErrBootProgram}, {"program 0\nspace 17\ndone\nfeed 0 0 x", 13, line},
	} {
		refuses(t, small+x.lines, x.line, x.why)
	}
	tells(t, small+"program 0\nspace 16\ndone\nboot", "> program 0\n  words 16\n> boot\n")
	tells(t, small+"program 0\nspace 1024\ndone", "> program 0\n  words 1024\n")
	tells(t, small+"program 0\ndone\nboot", "> program 0\n  words 0\n> boot\n")
}

// P32.1: feeds are looked at when the machine is made.
func TestFeedFaults(t *testing.T) {
	for _, feeds := range []string{"feed 0 0 1 2\n", "feed 0 1073741824\n", "feed 0 2147483647 1\n", "feed 0 0\nfeed 0 00\n", "feed 0 5 1\nfeed 0 6\nfeed 0 5 1\n"} {
		refuses(t, small+feeds+"boot", 10+strings.Count(feeds, "\n"), api.ErrDeviceFeed)
		tells(t, small+feeds, "")
	}
	tells(t, small+"feed 0 1073741823 1\nfeed 0 0\nfeed 0 1 4294967295\nboot", "> feed 0 1 4294967295\n> boot\n")
	many := strings.Repeat("feed 0 0\n", api.MaxFeeds)
	refuses(t, small+many+"boot", 10+api.MaxFeeds, api.ErrDeviceFeed)
	refuses(t, small+many+"feed 0 0\nboot", 11+api.MaxFeeds, api.ErrLong)
	refuses(t, small+"program 0\nspace 17\ndone\n"+many+"feed 0 0\nboot", 14+api.MaxFeeds, api.ErrBootProgram)
}

// P32.1: the first line that is refused is told, whatever stands behind it.
func TestFirst(t *testing.T) {
	refuses(t, small+"boot\nrun 9\nrun 0\nnothing", 11, api.ErrCrewEpochs)
	refuses(t, small+"boot\nstep 0 9000\nnothing\nboot", 11, api.ErrLong)
	refuses(t, small+"boot\nboot\nnothing\n", 11, state)
	refuses(t, small+"feed 1 0\nprogram 0", 10, line)
	refuses(t, "nothing\n"+small, 1, line)
	refuses(t, "boot\n"+small, 1, state)
}
