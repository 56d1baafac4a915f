package crew_test

import (
	"fmt"
	"math/rand/v2"
	"runtime"
	"slices"
	"testing"
	"time"

	"bulkhead/api"
	"bulkhead/crew"
	"bulkhead/kernel"
	"bulkhead/solo"
)

// comes tells whether a core is at the end of the frame ahead of an epoch, or at the end of all.
func comes(v api.CoreView, epoch int) bool {
	return v.Mode == api.ModeEnd || v.Mode == api.ModeWait && v.Epoch == epoch-1
}

// steps lets a core step, and adds what that tells to the traces.
func steps(t *testing.T, k *kernel.Kernel, core int, traces []api.Trace) api.Turn {
	t.Helper()
	turn, e := k.Step(core)
	if e != api.OK {
		t.Fatalf("Step(%d): error %d", core, e)
	}
	for _, x := range turn.Seen {
		traces[x.Partition].Seen = append(traces[x.Partition].Seen, x)
	}
	for _, x := range turn.Events {
		if x.Partition >= 0 {
			traces[x.Partition].Events = append(traces[x.Partition].Events, x)
		}
	}
	for _, x := range turn.Outs {
		traces[x.Partition].Outs = append(traces[x.Partition].Outs, x)
	}
	return turn
}

// byHand steps a machine till all its cores have come to an epoch, and tells which it has picked.
func byHand(t *testing.T, k *kernel.Kernel, epoch int, pick func() int) (traces []api.Trace, picks []int) {
	t.Helper()
	traces = empty(len(k.Partitions()))
	views := k.Cores()
	for slices.ContainsFunc(views, func(v api.CoreView) bool { return !comes(v, epoch) }) {
		core := pick()
		if comes(views[core], epoch) {
			continue
		}
		steps(t, k, core, traces)
		picks = append(picks, core)
		views = k.Cores()
		if len(picks) > 1<<20 {
			t.Fatal("it never comes there")
		}
	}
	return traces, picks
}

// untilAll tells picks that bring a machine's cores to an epoch; the machine itself goes there.
func untilAll(t *testing.T, k *kernel.Kernel, epoch int, pick func() int) []int {
	t.Helper()
	_, picks := byHand(t, k, epoch, pick)
	return picks
}

// somewhere is a drawn machine that stands anywhere within its first frames.
func somewhere(t *testing.T, r *rand.Rand) (recipe, *kernel.Kernel) {
	t.Helper()
	x := drawn(t, r)
	k := x.boot(t)
	cores := len(x.c.Cores)
	pick := orders(r, cores)[[]string{"in turn", "at random", "one ahead for a while"}[r.IntN(3)]]
	traces := empty(len(x.c.Partitions))
	for range r.IntN(700) {
		steps(t, k, pick(), traces)
	}
	return x, k
}

// counts tells which places machines stood at when they were run.
type counts map[string]int

// add counts how a machine's cores stand.
func (n counts) add(k *kernel.Kernel) {
	for _, s := range k.States() {
		switch {
		case s.Mode == api.ModeCall && s.Asked:
			n["a call that waits for a lock"]++
		case s.Mode == api.ModeCall && s.Locks > 0:
			n["a call with a lock"]++
		case s.Mode == api.ModeRun && s.Used > 0:
			n["within a window"]++
		case s.Mode == api.ModeArrive:
			n["about to arrive"]++
		case s.Mode == api.ModeWait && s.Epoch == k.Epoch():
			n["waiting for the others"]++
		case s.Mode == api.ModeWait:
			n["about to leave"]++
		}
	}
}

// P30.1, P30.2: wherever a machine stands, Run tells and leaves what any row of steps does that ends at the same place, and that is where all cores are about to leave.
func TestRunAsByHand(t *testing.T) {
	stood, told := counts{}, map[string]int{}
	for seed := range uint64(150) {
		r := rand.New(rand.NewPCG(seed, 301))
		x, k := somewhere(t, r)
		stood.add(k)
		epochs := 1 + r.IntN(3)
		from := k.Epoch()
		twins := map[string]*kernel.Kernel{}
		for order := range orders(r, 1) {
			twins[order] = x.twin(t, k)
		}
		got := runs(t, k, epochs)
		if k.Epoch() != from+epochs {
			t.Fatalf("seed %d: Run of %d frames leads from the epoch %d to %d", seed, epochs, from, k.Epoch())
		}
		for core, v := range k.Cores() {
			if want := (api.CoreView{Epoch: k.Epoch() - 1, Mode: api.ModeWait, Partition: -1}); v != want {
				t.Fatalf("seed %d: the core %d stands at %+v, want %+v", seed, core, v, want)
			}
		}
		for order, pick := range orders(r, len(x.c.Cores)) {
			what := fmt.Sprintf("seed %d, %s", seed, order)
			want, _ := byHand(t, twins[order], from+epochs, pick)
			tell(t, got, want, what)
			alike(t, k, twins[order], what)
		}
		for p, x := range got {
			told["seen"] += len(x.Seen)
			told["outs"] += len(x.Outs)
			for _, e := range x.Events {
				told[fmt.Sprint("event ", e.Kind)]++
				if e.Partition != p || e.Kind == api.EventEpoch {
					t.Fatalf("seed %d: partition %d is told %+v", seed, p, e)
				}
			}
		}
	}
	// All must have come, or it was drawn too narrowly.
	for _, place := range []string{"a call that waits for a lock", "a call with a lock", "within a window", "about to arrive", "waiting for the others", "about to leave"} {
		if stood[place] < 5 {
			t.Errorf("only %d cores were %s", stood[place], place)
		}
	}
	for _, what := range []string{"seen", "outs", "event 1", "event 2", "event 3", "event 4", "event 5"} {
		if told[what] < 5 {
			t.Errorf("%s: %d times", what, told[what])
		}
	}
}

// P30.2, R6: what Run tells and leaves hangs on the machine and on the number of frames alone, not on how many processors carry its workers.
func TestRunAgain(t *testing.T) {
	defer runtime.GOMAXPROCS(runtime.GOMAXPROCS(0))
	for seed := range uint64(40) {
		r := rand.New(rand.NewPCG(seed, 302))
		x, k := somewhere(t, r)
		epochs := 1 + r.IntN(api.MaxEpochs)
		first := x.twin(t, k)
		want := runs(t, first, epochs)
		for i := range 6 {
			runtime.GOMAXPROCS([]int{1, 2, 8}[i%3])
			n := x.twin(t, k)
			what := fmt.Sprintf("seed %d, the run %d", seed, i)
			tell(t, runs(t, n, epochs), want, what)
			alike(t, n, first, what)
		}
	}
}

// P30.1, T2: from the beginning on, Run tells what each partition sees by itself.
func TestRunAsSolo(t *testing.T) {
	for seed := range uint64(60) {
		r := rand.New(rand.NewPCG(seed, 303))
		x := drawn(t, r)
		epochs := 1 + r.IntN(api.MaxEpochs)
		want, e := solo.Run(x.c, x.programs, x.feeds, epochs)
		if e != api.OK {
			t.Fatalf("seed %d: solo.Run: error %d", seed, e)
		}
		tell(t, runs(t, x.boot(t), epochs), want, fmt.Sprintf("seed %d, %d frames", seed, epochs))
	}
}

// P30.3: Play tells and leaves what the steps do, one by one; those that are blocked, too.
func TestPlayAsByHand(t *testing.T) {
	blocked := 0
	for seed := range uint64(60) {
		r := rand.New(rand.NewPCG(seed, 304))
		x, k := somewhere(t, r)
		still := x.twin(t, k)
		for order, pick := range orders(r, len(x.c.Cores)) {
			var picks []int
			want := empty(len(x.c.Partitions))
			for range r.IntN(600) {
				core := pick()
				picks = append(picks, core)
				if steps(t, still, core, want).Kind == api.TurnBlocked {
					blocked++
				}
			}
			what := fmt.Sprintf("seed %d, %s, %d picks", seed, order, len(picks))
			tell(t, plays(t, k, picks...), want, what)
			alike(t, k, still, what)
		}
	}
	if blocked < 1000 {
		t.Errorf("only %d steps were blocked", blocked)
	}
}

// P30.4: behind Run and Play a machine goes on as one that was stepped so by hand, wherever that leads.
func TestGoesOn(t *testing.T) {
	for seed := range uint64(40) {
		r := rand.New(rand.NewPCG(seed, 305))
		x, k := somewhere(t, r)
		still := x.twin(t, k)
		pick := orders(r, len(x.c.Cores))["one ahead for a while"]
		one, another := empty(len(x.c.Partitions)), empty(len(x.c.Partitions))
		for round := range 6 {
			what := fmt.Sprintf("seed %d, round %d", seed, round)
			epoch := k.Epoch() + 1 + r.IntN(2)
			runs(t, k, epoch-k.Epoch())
			byHand(t, still, epoch, pick)
			for range r.IntN(400) {
				core := pick()
				if a, b := steps(t, k, core, one), steps(t, still, core, another); a.Kind != b.Kind {
					t.Fatalf("%s: a step of the kind %d, want %d", what, a.Kind, b.Kind)
				}
			}
			alike(t, k, still, what)
			var picks []int
			for range r.IntN(400) {
				picks = append(picks, pick())
			}
			plays(t, k, picks...)
			for _, core := range picks {
				steps(t, still, core, empty(len(x.c.Partitions)))
			}
			alike(t, k, still, what)
		}
		tell(t, one, another, fmt.Sprintf("seed %d", seed))
	}
}

// P30.4, R7: all goroutines have ended when a call answers, whatever it answers.
func TestGoroutinesEnd(t *testing.T) {
	x := pair(t)
	k := x.boot(t)
	ended := x.late(t, api.MaxEpoch-1)
	before := runtime.NumGoroutine()
	for i := range 200 {
		runs(t, k, 1+i%2)
		runs(t, ended, 3)
		plays(t, k, 0, 1, 0, 1)
		crew.Run(k, 0)
		crew.Run(nil, 1)
		crew.Play(k, []int{2})
		// A goroutine that has done its last may still be on its way out.
		for wait := 0; runtime.NumGoroutine() > before && wait < 1000; wait++ {
			time.Sleep(time.Millisecond)
		}
		if now := runtime.NumGoroutine(); now > before {
			t.Fatalf("the round %d: %d goroutines, %d at first", i, now, before)
		}
	}
}

// P30.4: they have ended when Run answers, not only soon: with one processor a worker that is not waited for has not even begun to end.
func TestGoroutinesAreJoined(t *testing.T) {
	defer runtime.GOMAXPROCS(runtime.GOMAXPROCS(1))
	k := pair(t).boot(t)
	before, late := runtime.NumGoroutine(), 0
	for range 100 {
		runs(t, k, 1)
		if runtime.NumGoroutine() > before {
			late++
		}
		for runtime.NumGoroutine() > before {
			runtime.Gosched()
		}
	}
	// One may be held up behind its very last word.
	if late > 20 {
		t.Errorf("of 100 runs %d have left goroutines behind", late)
	}
}

// P30.5: two runs, one behind the other, tell and leave what one run of as many frames does.
func TestRunsInARow(t *testing.T) {
	for seed := range uint64(40) {
		r := rand.New(rand.NewPCG(seed, 306))
		x, k := somewhere(t, r)
		sum := 2 + r.IntN(api.MaxEpochs-1)
		whole := x.twin(t, k)
		want := runs(t, whole, sum)
		for a := 1; a < sum; a++ {
			n := x.twin(t, k)
			got := runs(t, n, a)
			for p, more := range runs(t, n, sum-a) {
				got[p].Seen = append(got[p].Seen, more.Seen...)
				got[p].Events = append(got[p].Events, more.Events...)
				got[p].Outs = append(got[p].Outs, more.Outs...)
			}
			what := fmt.Sprintf("seed %d, %d and %d frames", seed, a, sum-a)
			tell(t, got, want, what)
			alike(t, n, whole, what)
		}
	}
}

// P30.6, T6: frames that are run are the frames that any picks play.
func TestSideBySide(t *testing.T) {
	for seed := range uint64(60) {
		r := rand.New(rand.NewPCG(seed, 307))
		x, k := somewhere(t, r)
		from := x.twin(t, k)
		n := 1 + r.IntN(3)
		epoch := k.Epoch() + n
		want := runs(t, k, n)
		for order, pick := range orders(r, len(x.c.Cores)) {
			picks := untilAll(t, x.twin(t, from), epoch, pick)
			played := x.twin(t, from)
			what := fmt.Sprintf("seed %d, %d frames, %s", seed, n, order)
			tell(t, plays(t, played, picks...), want, what)
			alike(t, played, k, what)
		}
	}
}

// P30.1, P30.2: near its end a machine is played up to MaxEpoch and no further, and one that is there stays as it is.
func TestRunToTheEnd(t *testing.T) {
	x := pair(t)
	for left := 0; left <= 3; left++ {
		for _, epochs := range []int{1, 2, 3, 4, api.MaxEpochs} {
			what := fmt.Sprintf("%d frames of %d", epochs, left)
			k := x.late(t, api.MaxEpoch-4)
			byHand(t, k, api.MaxEpoch-left, inTurn(2))
			still, epoch := x.twin(t, k), min(api.MaxEpoch-left+epochs, api.MaxEpoch)
			want, _ := byHand(t, still, epoch, inTurn(2))
			tell(t, runs(t, k, epochs), want, what)
			alike(t, k, still, what)
			if k.Epoch() != epoch || left > 0 && len(want[0].Seen) < 10 {
				t.Fatalf("%s: epoch %d, %+v", what, k.Epoch(), want[0])
			}
		}
	}
}

// P30.1, P30.3: at the end of all, whichever core has left to it, nothing is played any more.
func TestRunAtTheEnd(t *testing.T) {
	x := pair(t)
	for _, picks := range [][]int{nil, {0}, {1}, {1, 0}} {
		k := x.late(t, api.MaxEpoch-1)
		if runs(t, k, 8); k.Epoch() != api.MaxEpoch {
			t.Fatalf("epoch %d", k.Epoch())
		}
		tell(t, plays(t, k, picks...), empty(3), "it goes to its end")
		for core, v := range k.Cores() {
			want := api.CoreView{Epoch: api.MaxEpoch - 1, Mode: api.ModeWait, Partition: -1}
			if slices.Contains(picks, core) {
				want.Epoch, want.Mode = api.MaxEpoch, api.ModeEnd
			}
			if v != want {
				t.Errorf("behind the picks %v the core %d stands at %+v, want %+v", picks, core, v, want)
			}
		}
		still := x.twin(t, k)
		for epochs := 1; epochs <= api.MaxEpochs; epochs++ {
			tell(t, runs(t, k, epochs), empty(3), "at the end of all")
			alike(t, k, still, "at the end of all")
		}
		if len(picks) == 2 {
			tell(t, plays(t, k, 0, 1, 1, 0, 0), empty(3), "picks at the end of all")
			alike(t, k, still, "picks at the end of all")
		}
	}
}

// seenAt are the epochs and the cycles of what a partition has seen.
func seenAt(traces []api.Trace, p int) (at [][2]int) {
	for _, x := range traces[p].Seen {
		at = append(at, [2]int{x.Epoch, x.Cycle})
	}
	return at
}

// DOC.md, 'Examples of the whole', the 1st: a message is received in the next frame, and is not fresh in the one behind it.
func TestMessageOfTheWhole(t *testing.T) {
	k := recipeOf(t, `
		memory 10
		major 182
		kernel 2 8
		channel sampling 1
		partition one entry 0 action halt restarts 0 inputs 0 outputs 0
		  region 0 1 0 rwx
		  port 0 source
		partition two entry 0 action halt restarts 0 inputs 0 outputs 0
		  region 0 1 1 rwx
		  port 0 dest
		core
		  window 0 100 82
		core
		  window 1 100 82
		end`,
		"li r2, 9\nli r3, 1\nhyp 1\nhyp 0\njmp 2\nspace 4\nword 77",
		"li r2, 9\nhyp 2\nhyp 0\njmp -3").boot(t)
	first := runs(t, k, 1)
	if got, want := seenAt(first, 0), [][2]int{{0, 14}, {0, 16}, {0, 41}, {0, 66}}; !slices.Equal(got, want) {
		t.Errorf("the sender: %v, want %v", got, want)
	}
	if got, want := seenAt(first, 1), [][2]int{{0, 14}, {0, 39}, {0, 64}}; !slices.Equal(got, want) {
		t.Errorf("the receiver: %v, want %v", got, want)
	}
	if got, want := first[1].Seen[1].After, context(2, api.ToldEmpty); got != want {
		t.Errorf("the first frame: %+v, want %+v", got, want)
	}
	more := runs(t, k, 2)
	if got, want := seenAt(more, 1), [][2]int{{1, 14}, {1, 16}, {1, 41}, {1, 66}, {2, 14}, {2, 16}, {2, 41}, {2, 66}}; !slices.Equal(got, want) {
		t.Fatalf("the receiver: %v, want %v", got, want)
	}
	if one, another := more[1].Seen[2].After, more[1].Seen[6].After; one != context(2, 0, 1, 1) || another != context(2, 0, 1) {
		t.Errorf("the next frames: %+v, %+v", one, another)
	}
}

// DOC.md, 'Examples of the whole', the 7th: a core that waits for the lock that another one has is run on from there, and its counter does not tell.
func TestLockOfTheWhole(t *testing.T) {
	k := recipeOf(t, `
		memory 10
		major 142
		kernel 2 8
		channel queuing 1 2
		partition one entry 0 action halt restarts 0 inputs 0 outputs 3
		  region 0 1 0 rwx
		  port 0 source
		partition two entry 0 action halt restarts 0 inputs 0 outputs 3
		  region 0 1 1 rwx
		  port 0 dest
		core
		  window 0 60 82
		core
		  window 1 60 82
		end`,
		"cyc r4\nli r3, 1\nhyp 1\nhyp 0\njmp -4",
		"li r2, 9\nhyp 2\ncyc r5\nhyp 0\njmp -4").boot(t)
	played := plays(t, k, 0, 0, 0, 0, 1, 1, 1, 1, 0, 0, 0, 1, 1, 1, 1, 1)
	if got, want := seenAt(played, 1), [][2]int{{0, 14}}; !slices.Equal(got, want) {
		t.Errorf("ahead of the lock: %v, want %v", got, want)
	}
	run := runs(t, k, 1)
	if got, want := seenAt(run, 1), [][2]int{{0, 39}, {0, 41}, {0, 66}}; !slices.Equal(got, want) {
		t.Fatalf("behind it: %v, want %v", got, want)
	}
	for i, want := range []api.Context{context(2, api.ToldEmpty), context(3, api.ToldEmpty, 0, 0, 0, 39), context(4, 0, 0, 0, 0, 39)} {
		if got := run[1].Seen[i].After; got != want {
			t.Errorf("behind it, the instruction %d: %+v, want %+v", i, got, want)
		}
	}
}
