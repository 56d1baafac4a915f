package tale_test

import (
	"fmt"
	"math/rand/v2"
	"strings"
	"testing"

	"bulkhead/api"
	"bulkhead/kernel"
	"bulkhead/tale"
)

// looks asks for all that can be looked at.
func looks(c api.Config) string {
	out := "epoch\ncores\npartitions\naudit\n"
	for p := range c.Partitions {
		out += fmt.Sprintf("seen %d\nouts %d\nevents %d\n", p, p, p)
	}
	for at := 0; at < 16*c.Frames; at += 16 {
		out += fmt.Sprintf("words %d 16\n", at)
	}
	return out
}

// behind tells a transcript behind the last mark.
func behind(t *testing.T, script, mark string) string {
	t.Helper()
	got, err := tale.Run(script)
	if err != nil {
		t.Fatalf("%v\n%s", err, script)
	}
	return got[strings.LastIndex(got, mark):]
}

// stepsTo writes a row of steps that ends where a run of so many frames ends: the cores one behind the other, each in bursts of a drawn length.
func stepsTo(t *testing.T, r *rand.Rand, m *model, frames int) string {
	t.Helper()
	k, e := kernel.New(m.c, m.programs, m.feeds)
	if e != api.OK {
		t.Fatal(e)
	}
	var out strings.Builder
	ended := func(core int) bool {
		x := k.Cores()[core]
		return x.Mode == api.ModeWait && x.Epoch == frames-1
	}
	for k.Epoch() < frames {
		core, steps := r.IntN(len(m.c.Cores)), 0
		for most := 1 + r.IntN(60); steps < most && !ended(core); steps++ {
			if _, e := k.Step(core); e != api.OK {
				t.Fatal(e)
			}
		}
		fmt.Fprintf(&out, "step %d %d\n", core, steps)
	}
	return out.String()
}

// P32.4: run leaves what rounds and steps leave that end at the same place: whatever is looked at behind them is the same.
func TestRunAsSteps(t *testing.T) {
	compared := 0
	for seed := range uint64(60) {
		r := rand.New(rand.NewPCG(324, seed))
		m, lines := drawBeginning(t, r)
		frames := 1 + r.IntN(3)
		begin := strings.Join(lines, "\n") + "\n"
		steps := stepsTo(t, r, m, frames)
		one, err := tale.Run(begin + fmt.Sprintf("run %d\n", frames) + looks(m.c))
		other, fault := tale.Run(begin + steps + looks(m.c))
		if err != nil || fault != nil {
			continue // too long to be told
		}
		one, other = one[strings.Index(one, "> epoch"):], other[strings.Index(other, "> epoch"):]
		if one != other {
			t.Fatalf("seed %d\n%s%s\n%s", seed, begin, steps, diff(other, one))
		}
		compared++
	}
	if compared < 30 {
		t.Error(compared)
	}
}

// P32.4: of one core as many rounds as bring it to its arrival are a run, to the last word.
func TestRunAsRounds(t *testing.T) {
	compared := 0
	for seed := range uint64(120) {
		r := rand.New(rand.NewPCG(325, seed))
		m, lines := drawBeginning(t, r)
		if len(m.c.Cores) != 1 {
			continue
		}
		begin, frames, rounds := strings.Join(lines, "\n")+"\n", 1+r.IntN(8), 0
		for ; m.k.Epoch() < frames; rounds++ {
			m.step(0)
		}
		one, err := tale.Run(begin + fmt.Sprintf("run %d\n", frames) + looks(m.c))
		other, fault := tale.Run(begin + fmt.Sprintf("round %d\n", rounds) + looks(m.c))
		if err != nil || fault != nil {
			continue
		}
		if strings.Replace(one, fmt.Sprintf("> run %d\n", frames), fmt.Sprintf("> round %d\n", rounds), 1) != other {
			t.Fatalf("seed %d\n%s%s", seed, begin, diff(one, other))
		}
		compared++
	}
	if compared < 10 {
		t.Error(compared)
	}
}

// P32.4: what is seen, told and becomes in rounds begins what is in a run that goes further, and the other way round.
func TestRoundsWithinRun(t *testing.T) {
	for seed := range uint64(60) {
		r := rand.New(rand.NewPCG(326, seed))
		m, lines := drawBeginning(t, r)
		begin := strings.Join(lines, "\n") + "\n"
		for p := range m.c.Partitions {
			for _, look := range []string{"seen", "outs", "events"} {
				ask := fmt.Sprintf("%s %d\n", look, p)
				long, err := tale.Run(begin + "run 4\n" + ask)
				if err != nil {
					continue
				}
				long = long[strings.Index(long, "> "+ask):]
				for _, rounds := range []int{0, 1, 30, 100, 200, r.IntN(500)} {
					short := behind(t, begin+fmt.Sprintf("round %d\n", rounds)+ask, "> "+ask)
					if !strings.HasPrefix(long, short) && !strings.HasPrefix(short, long) {
						t.Fatalf("seed %d, %d rounds: %s\n%s", seed, rounds, ask, diff(short, long))
					}
				}
			}
		}
	}
}

// P32.4: runs and rounds one behind the other.
func TestRunAndRound(t *testing.T) {
	begin := pair + "program 0\nli r3, 1\nhyp 1\nhyp 0\njmp -3\ndone\nprogram 1\nhyp 2\nhyp 0\njmp -2\ndone\nboot\n"
	whole := behind(t, begin+"run 6\nseen 1\n", "> seen 1")
	for _, play := range []string{"run\nrun 5\n", "run 2\nround 20\nrun 4\nrun\nround 0\n", "step 1 7\nrun 6\n", "round 3\nstep 0 20\nrun 3\nsave\nload\nrun 3\n", "step 0 20\nrun 6\n"} {
		got := behind(t, begin+play+"seen 1\n", "> seen 1")
		if !strings.HasPrefix(got, whole) {
			t.Errorf("%s: %s", play, diff(got, whole))
		}
	}
}

// P32.2 (T2): what a partition has seen, whichever core stepped when, is what it sees by itself.
func TestAsByItself(t *testing.T) {
	for seed := range uint64(100) {
		r := rand.New(rand.NewPCG(327, seed))
		m, lines := drawBeginning(t, r)
		for range r.IntN(8) {
			lines = append(lines, []string{
				fmt.Sprintf("step %d %d", r.IntN(len(m.c.Cores)), r.IntN(150)),
				fmt.Sprintf("round %d", r.IntN(150)),
				"run",
			}[r.IntN(3)])
			for p := range m.c.Partitions {
				lines = append(lines, fmt.Sprintf("solo %d %d", p, r.IntN(9)))
			}
		}
		got, err := tale.Run(strings.Join(lines, "\n"))
		if err != nil || strings.Contains(got, "other") {
			t.Fatalf("seed %d: %v\n%s", seed, err, got)
		}
	}
}

// P32.2 (T7): a machine that is kept and gone on with between any two commands goes on alike.
func TestGoesOn(t *testing.T) {
	compared := 0
	for seed := range uint64(100) {
		r := rand.New(rand.NewPCG(328, seed))
		m, lines := drawBeginning(t, r)
		begin, whole, cut := strings.Join(lines, "\n")+"\n", "", ""
		for range r.IntN(12) {
			command := []string{
				fmt.Sprintf("step %d %d\n", r.IntN(len(m.c.Cores)), r.IntN(50)),
				fmt.Sprintf("round %d\n", r.IntN(100)),
				"run\n", "cores\n", "partitions\n",
				fmt.Sprintf("seen %d\n", r.IntN(len(m.c.Partitions))),
				fmt.Sprintf("solo %d 3\n", r.IntN(len(m.c.Partitions))),
			}[r.IntN(7)]
			whole, cut = whole+command, cut+"save\nload\n"+command
		}
		one, err := tale.Run(begin + whole + looks(m.c))
		other, fault := tale.Run(begin + cut + looks(m.c))
		if err != nil || fault != nil {
			continue
		}
		if other = strings.ReplaceAll(other, "> save\n> load\n", ""); one != other {
			t.Fatalf("seed %d\n%s%s", seed, begin+cut, diff(other, one))
		}
		compared++
	}
	if compared < 50 {
		t.Error(compared)
	}
}
