package tale_test

import (
	"strings"
	"testing"

	"bulkhead/api"
	"bulkhead/tale"
)

// P32.1: a script has MaxText bytes at most.
func TestLongScript(t *testing.T) {
	for _, script := range []string{"", small + "boot\nrun 1\n", "nothing\n"} {
		got, err := tale.Run(script)
		for _, fill := range []string{"\n", "#", " "} {
			full := script + strings.Repeat(fill, api.MaxText-len(script))
			again, fault := tale.Run(full)
			if again != got || (fault == nil) != (err == nil) || fault != nil && fault.Error() != err.Error() {
				t.Errorf("%.20q..: %v\n%.200s", script, fault, again)
			}
			refuses(t, full+fill, 0, api.ErrLong)
			refuses(t, fill+full, 0, api.ErrLong)
		}
	}
	refuses(t, strings.Repeat("x", 3*api.MaxText), 0, api.ErrLong)
}

// filled is a script, booted, whose transcript is spare bytes shorter than the longest one; the command behind it stands in the line that is told.
func filled(t *testing.T, ahead string, spare int) (string, int) {
	t.Helper()
	const looked = "epoch\n"
	pad := func(zeros int) string { return small + "feed 0 " + strings.Repeat("0", zeros) + "9\n" + ahead }
	length := func(script string) int {
		got, err := tale.Run(script)
		if err != nil {
			t.Fatal(err)
		}
		return len(got)
	}
	one, two := length(pad(0)), length(pad(0)+looked)
	room := api.MaxText - spare - one
	looks := room/(two-one) - 1
	script := pad(room-looks*(two-one)) + strings.Repeat(looked, looks)
	if n := length(script); n != api.MaxText-spare {
		t.Fatalf("%d bytes, want %d", n, api.MaxText-spare)
	}
	return script, strings.Count(script, "\n") + 1
}

// P32.1: a transcript has MaxText bytes at most, whichever command comes last; and ErrLong is the last of the errors of a command.
func TestLongTranscript(t *testing.T) {
	ahead := "program 0\nhyp 5\ndiv r1, r1, r1\ndone\nboot\nrun 1\nsave\n"
	for command, told := range map[string]string{
		"step 0":     "> step 0\n  core 0 leave\n",
		"step 0 0":   "> step 0 0\n",
		"step 0 3":   "> step 0 3\n  core 0 leave\n  core 0 switch\n  core 0 arrive\n",
		"round 2":    "> round 2\n  epoch 1\n",
		"run":        "> run\n  epoch 2\n",
		"epoch":      "> epoch\n  epoch 1\n",
		"cores":      "> cores\n  core 0 epoch 0 window 0 used 0 wait partition none\n",
		"partitions": "> partitions\n  partition 0 a halted restarts 0 trap 5 pc 1 outs 1\n",
		"seen 0":     "> seen 0\n  at 0:37 pc 0 hyp 5\n  at 0:48 pc 1 div r1, r1, r1 trap 5\n",
		"outs 0":     "> outs 0\n  at 0 word 0\n",
		"events 0":   "> events 0\n  at 0:48 trap 5\n  at 0:48 halt 5\n",
		"words 32 2": "> words 32 2\n  32: 2013265925\n  33: 541343744\n",
		"words 3 0":  "> words 3 0\n",
		"audit":      "> audit\n  fine\n",
		"solo 0 1":   "> solo 0 1\n  same 2 2\n",
		"save":       "> save\n",
		"load":       "> load\n",
	} {
		just, at := filled(t, ahead, len(told))
		got, err := tale.Run(just + command)
		if err != nil || len(got) != api.MaxText || !strings.HasSuffix(got, told) {
			t.Errorf("%s: %v, %d bytes, .. %s", command, err, len(got), got[max(0, len(got)-100):])
		}
		over, at2 := filled(t, ahead, len(told)-1)
		refuses(t, over+command+"\nnothing", at2, api.ErrLong)
		full, at3 := filled(t, ahead, 0)
		refuses(t, full+command, at3, api.ErrLong)
		refuses(t, full+"\n#\n"+command, at3+2, api.ErrLong)
		if at < 100 {
			t.Errorf("%s: line %d", command, at)
		}
	}
	full, at := filled(t, ahead, 0)
	tells(t, full+"\n # nothing more\n", "")
	for command, why := range map[string]api.Errno{
		"run 9": api.ErrCrewEpochs, "run 0": api.ErrCrewEpochs, "words 257 1": api.ErrMemAt, "solo 0 9": api.ErrSoloEpochs, "boot": state, "nothing": line, "seen 1": line, "program 0": line, "program 0\ndone": state,
	} {
		refuses(t, full+command, at, why)
	}
}

// P32.1: what comes ahead of the boot is too long as well; of a program that is told at the line of the command.
func TestLongAhead(t *testing.T) {
	one := pair + "feed 1 "
	two := "9\nfeed 0 " + strings.Repeat("0", 20000) + "9\nprogram 1\nnop\ndone\n"
	got, err := tale.Run(one + two)
	if err != nil {
		t.Fatal(err)
	}
	// The transcript of feeds is longer than the lines, by two bytes each; the rest of a configuration is shorter.
	room, feeds := api.MaxText-len(got), ""
	for i := 0; len(feeds)+2*i < 44000; i++ {
		feeds += "feed 0 0\n"
	}
	got, _ = tale.Run(one + two + feeds)
	room = api.MaxText - len(got)
	script := one + strings.Repeat("0", room-len("> program 0\n  words 2\n")) + two + feeds
	line := strings.Count(script, "\n") + 1
	if len(script) > api.MaxText-40 {
		t.Fatal(len(script))
	}
	got, err = tale.Run(script + "program 0\nnop\nnop\ndone")
	if err != nil || len(got) != api.MaxText {
		t.Errorf("%v, %d bytes", err, len(got))
	}
	refuses(t, script+"program 00\nnop\nnop\ndone", line, api.ErrLong)
	refuses(t, script+"program 00\nnop\nbad\ndone", line+2, api.ErrAsmLine)
	refuses(t, script+"program 0\nnop\nnop\ndone\nfeed 0 0\nprogram 0", line+4, api.ErrLong)
	refuses(t, script+"program 0\nnop\nnop\ndone\nboot", line+4, api.ErrDeviceFeed)
	script = strings.Replace(script, "program 1\nnop\ndone\n", "", 1)
	refuses(t, script+"feed 0 0 "+strings.Repeat("1 ", 200)+"\nfeed 0 0 x", line-3, api.ErrLong)
}

// endless is a machine whose partition is never at its end.
const endless = small + "program 0\njmp 0\ndone\nboot\n"

// P32.1, P32.2: what was seen is counted, however much it is; and what is too long to be told is refused, not cut.
func TestMuchSeen(t *testing.T) {
	tells(t, endless+"round 100\nseen 0\nround 100\nsolo 0 8\nsolo 0 0", "> solo 0 8\n  same 197 1152\n> solo 0 0\n  same 197 0\n")
	much := endless + strings.Repeat("round 65536\n", 3)
	tells(t, much+"solo 0 8", "> solo 0 8\n  same 192597 1152\n")
	refuses(t, much+"seen 0", 17, api.ErrLong)
	refuses(t, endless+"seen 0\nround 4000\nseen 0", 16, api.ErrLong)
	refuses(t, endless+"step 0 65536", 14, api.ErrLong)
}

// P32.1: a great many words that a partition has told its device, and a great many events.
func TestMuchTold(t *testing.T) {
	script := strings.Replace(small, "outputs 1", "outputs 16", 1) + "program 0\nhyp 5\njmp -1\ndone\nboot\n"
	got, err := tale.Run(script + "run 8\nouts 0\nrun 8\nouts 0\nouts 0\n")
	if n := strings.Count(got, "word 0\n"); err != nil || n != 16*11 || !strings.HasSuffix(got, "> outs 0\n") {
		t.Errorf("%v, %d words", err, n)
	}
	refuses(t, script+"round 65536\nouts 0", 16, api.ErrLong)
	warm := strings.Replace(small, "action halt restarts 0", "action cold restarts 15", 1) + "boot\nround 1000\n"
	got, err = tale.Run(warm + "events 0\nevents 0")
	if n := strings.Count(got, "\n  at "); err != nil || n != 16+15+1 || !strings.HasSuffix(got, "  at 15:23 trap 2\n  at 15:23 halt 2\n> events 0\n") {
		t.Errorf("%v, %d events\n%s", err, n, got)
	}
}
