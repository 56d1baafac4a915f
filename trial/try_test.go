package trial_test

import (
	"fmt"
	"math/rand/v2"
	"runtime"
	"runtime/metrics"
	"slices"
	"testing"
	"time"

	"bulkhead/api"
	"bulkhead/kernel"
	"bulkhead/solo"
	"bulkhead/trial"
)

// P31.3, P31.4: the verdict is that over what the partition has seen in both plays, stepped by hand; and it is that nothing has passed.
func TestTryAsByHand(t *testing.T) {
	told := map[string]int{}
	for seed := range uint64(400) {
		r := rand.New(rand.NewPCG(seed, 311))
		c, p, one, another := drawnPair(t, r, 2500)
		first, k := byHand(t, c, p, one)
		second, _ := byHand(t, c, p, another)
		what := fmt.Sprintf("seed %d", seed)
		want := api.Verdict{Same: true, At: min(len(first), len(second)), One: len(first), Another: len(second)}
		if !slices.Equal(first[:want.At], second[:want.At]) {
			t.Fatalf("%s: partition %d has not seen the same", what, p)
		}
		tries(t, c, p, one, another, want, what)
		want.One, want.Another = want.Another, want.One
		tries(t, c, p, another, one, want, what)

		for _, x := range first {
			told["seen"]++
			if x.Trap != api.TrapNone {
				told["traps"]++
			}
			if x.After.Regs[1] == api.ToldOK && x.Word == 0x78000002 {
				told["received"]++
			}
		}
		if want.One != want.Another {
			told["unlike lengths"]++
		}
		if k.Epoch() > 2 {
			told["frames"]++
		}
	}
	// All must have come, or it was drawn too narrowly.
	for _, what := range []string{"seen", "traps", "received", "unlike lengths", "frames"} {
		if told[what] < 50 {
			t.Errorf("%s: %d times", what, told[what])
		}
	}
}

// P31.3: of plays that need not look alike there is no verdict, however like they look; which they are is what Alike says.
func TestTryParts(t *testing.T) {
	told := map[bool]int{}
	for seed := range uint64(150) {
		r := rand.New(rand.NewPCG(seed, 312))
		c, p, one, _ := drawnPair(t, r, 60)
		another := mixed(r, one, drawnPlay(t, r, c), tellers(c, p))
		q := r.IntN(len(c.Partitions))
		switch r.IntN(3) {
		case 0:
			another.Programs[q] = append(slices.Clone(another.Programs[q]), 0)
		case 1:
			another.Feeds = append(another.Feeds, feed(q, 1<<20, 0))
		}
		in := tellers(c, p)
		want := true
		for q := range c.Partitions {
			if in[q] && !(slices.Equal(one.Programs[q], another.Programs[q]) && sameFeeds(one, another, q)) {
				want = false
			}
		}
		told[want]++
		what := fmt.Sprintf("seed %d", seed)
		if !want {
			parts(t, c, p, one, another, what)
			continue
		}
		likes(t, c, p, one, another, true, what)
		if _, e := trial.Try(c, p, one, another); e != api.OK {
			t.Errorf("%s: Try: error %d", what, e)
		}
	}
	if told[true] < 30 || told[false] < 30 {
		t.Errorf("drawn too narrowly: %v", told)
	}
}

// sameFeeds tells whether a partition has the same feeds in two plays, all of which have words.
func sameFeeds(one, another api.Play, q int) bool {
	of := func(x api.Play) map[int]string {
		out := map[int]string{}
		for _, f := range x.Feeds {
			if f.Partition == q {
				out[f.Epoch] = fmt.Sprint(f.Words)
			}
		}
		return out
	}
	return fmt.Sprint(of(one)) == fmt.Sprint(of(another))
}

// core tells on which core a partition has windows, -1 for none.
func core(c api.Config, p int) int {
	for i, windows := range c.Cores {
		for _, w := range windows {
			if w.Partition == p {
				return i
			}
		}
	}
	return -1
}

// place is where a core stands.
type place struct{ epoch, mode, window, used int }

// stands tells where a core of a machine does.
func stands(k *kernel.Kernel, core int) place {
	v := k.Cores()[core]
	return place{v.Epoch, v.Mode, v.Window, v.Used}
}

// P31.5: where p's core stands at the same place behind both plays, p has seen as much in the one as in the other.
func TestTryAtOnePlace(t *testing.T) {
	modes, unlike := map[int]int{}, 0
	for seed := range uint64(600) {
		r := rand.New(rand.NewPCG(seed, 313))
		c, p, one, another := drawnPair(t, r, 1500)
		on := core(c, p)
		if on < 0 {
			continue
		}
		_, k := byHand(t, c, p, one)
		there := stands(k, on)
		k = machine(t, c, another)
		another.Picks = nil
		// Many picks may lead there: all that leave p's core where it is, and all others' steps meanwhile.
		var lengths []int
		pick := drawnOrder(r, len(c.Cores))
		for len(another.Picks) < 6000 && k.Cores()[on].Epoch <= there.epoch {
			if stands(k, on) == there {
				lengths = append(lengths, len(another.Picks))
			}
			another.Picks = append(another.Picks, pick())
			k.Step(another.Picks[len(another.Picks)-1])
		}
		if len(lengths) == 0 {
			continue
		}
		what := fmt.Sprintf("seed %d, %+v", seed, there)
		for _, at := range []int{0, len(lengths) / 2, len(lengths) - 1} {
			v, e := trial.Try(c, p, one, picked(another, another.Picks[:lengths[at]]...))
			if e != api.OK || !v.Same || v.One != v.Another || v.At != v.One {
				t.Fatalf("%s: Try of %d: %+v, error %d", what, p, v, e)
			}
			if v.One > 0 && len(one.Picks) != lengths[at] {
				unlike++
			}
		}
		modes[there.mode]++
	}
	for _, mode := range []int{api.ModeRun, api.ModeCall, api.ModeWait} {
		if modes[mode] < 20 {
			t.Errorf("the mode %d: %d times", mode, modes[mode])
		}
	}
	if unlike < 300 {
		t.Errorf("only %d plays of unlike lengths have come to one place", unlike)
	}
}

// P31.4: what a verdict speaks of begins what the partition sees by itself.
func TestTryAsSolo(t *testing.T) {
	held := 0
	for seed := range uint64(100) {
		r := rand.New(rand.NewPCG(seed, 314))
		c, p, one, another := drawnPair(t, r, 900)
		traces, e := solo.Run(c, one.Programs, one.Feeds, api.MaxEpochs)
		if e != api.OK {
			t.Fatalf("seed %d: solo.Run: error %d", seed, e)
		}
		second, k := byHand(t, c, p, another)
		if k.Epoch() >= api.MaxEpochs {
			continue
		}
		held++
		v, e := trial.Try(c, p, one, another)
		if e != api.OK || v.Another > len(traces[p].Seen) || !slices.Equal(second, traces[p].Seen[:v.Another]) {
			t.Fatalf("seed %d: Try of %d: %+v, error %d, by itself it sees %d", seed, p, v, e, len(traces[p].Seen))
		}
	}
	if held < 50 {
		t.Errorf("only %d plays are held beside it", held)
	}
}

// P31.6: Alike the other way round, of a play and itself, and through a third one.
func TestAlikeIsLikeness(t *testing.T) {
	told := map[bool]int{}
	for seed := range uint64(120) {
		r := rand.New(rand.NewPCG(seed, 315))
		c, p, one, _ := drawnPair(t, r, 40)
		other := drawnPlay(t, r, c)
		var plays []api.Play
		for range 5 {
			keep := make([]bool, len(c.Partitions))
			for q := range keep {
				keep[q] = r.IntN(3) < 2
			}
			x := mixed(r, one, other, keep)
			x.Picks = drawnPicks(r, len(c.Cores), 40)
			plays = append(plays, x)
		}
		var alike [5][5]bool
		for a := range plays {
			for b := range plays {
				is, e := trial.Alike(c, p, plays[a], plays[b])
				if e != api.OK {
					t.Fatalf("seed %d: error %d", seed, e)
				}
				alike[a][b] = is
				told[is]++
			}
		}
		for a := range plays {
			if !alike[a][a] {
				t.Fatalf("seed %d: the play %d is not like itself", seed, a)
			}
			for b := range plays {
				if alike[a][b] != alike[b][a] {
					t.Fatalf("seed %d: the plays %d and %d are alike one way alone", seed, a, b)
				}
				for d := range plays {
					if alike[a][b] && alike[b][d] && !alike[a][d] {
						t.Fatalf("seed %d: the plays %d, %d and %d are alike, but the first and the last one are not", seed, a, b, d)
					}
				}
			}
		}
	}
	if told[true] < 300 || told[false] < 300 {
		t.Errorf("drawn too narrowly: %v", told)
	}
}

// P31.3: a partition's steps alone are told of it; one without a window sees nothing, and neither does any without picks.
func TestTryOfEach(t *testing.T) {
	c := configOf(t, `
		memory 20
		major 400
		kernel 8 12
		partition a entry 0 action halt restarts 0 inputs 0 outputs 0
		  region 0 1 2 rwx
		partition b entry 0 action halt restarts 0 inputs 0 outputs 0
		  region 0 1 3 rwx
		partition d entry 0 action halt restarts 0 inputs 0 outputs 0
		  region 0 1 4 rwx
		core
		  window 0 20 90
		  window 1 40 250
		end`)
	x := api.Play{Programs: programsOf(t, "nop\njmp -1", "nop\nnop\njmp -2", "nop")}
	y := picked(x, make([]int, 11)...)
	// Four steps of a, the switch, six of b.
	for p, want := range []int{4, 6, 0} {
		tries(t, c, p, x, x, api.Verdict{Same: true}, "no picks")
		tries(t, c, p, y, x, api.Verdict{Same: true, One: want}, "picks in the first one")
		tries(t, c, p, x, y, api.Verdict{Same: true, Another: want}, "picks in the second one")
		tries(t, c, p, y, y, api.Verdict{Same: true, At: want, One: want, Another: want}, "picks in both")
	}
}

// P31.3: as many picks as may be are played, to the last one.
func TestTryTheMost(t *testing.T) {
	c := known(t)
	one, another := knownPlays(t)
	one.Programs = programsOf(t, "jmp 0")
	another.Programs = [][]uint32{one.Programs[0], programOf(t, "hyp 0\njmp -1")}
	most := picked(one, slices.Repeat([]int{0, 1}, api.MaxPicks/2)...)
	other := picked(another, slices.Repeat([]int{1, 0}, api.MaxPicks/2)...)
	first, k := byHand(t, c, 0, most)
	second, _ := byHand(t, c, 0, other)
	if len(first) < 25000 || k.Epoch() < 100 {
		t.Fatalf("too little is seen: %d, in %d frames", len(first), k.Epoch())
	}
	tries(t, c, 0, most, other, api.Verdict{Same: true, At: min(len(first), len(second)), One: len(first), Another: len(second)}, "the most picks")
	// The last pick counts.
	seen := 0
	for _, last := range []int{api.MaxPicks - 3, api.MaxPicks - 2, api.MaxPicks - 1, api.MaxPicks} {
		short := picked(one, most.Picks[:last]...)
		first, _ := byHand(t, c, 0, short)
		tries(t, c, 0, short, picked(one), api.Verdict{Same: true, One: len(first)}, fmt.Sprint(last, " picks"))
		seen = max(seen, len(first))
	}
	if seen != len(first) {
		t.Errorf("the last picks see %d, want %d", seen, len(first))
	}
}

// P31.4, DOC.md's 5th and 7th examples: neither what another partition leaves in the core, nor how long it is waited for its lock, nor how long a frame's end takes, is seen.
func TestNothingPasses(t *testing.T) {
	c := configOf(t, `
		memory 24
		major 700
		kernel 8 14
		channel queuing 1 2
		partition watches entry 0 action halt restarts 0 inputs 0 outputs 1
		  region 0 2 0 rwx
		  port 0 source
		partition near entry 0 action warm restarts 15 inputs 0 outputs 1
		  region 0 2 2 rwx
		partition far entry 0 action cold restarts 15 inputs 1 outputs 1
		  region 0 2 4 rwx
		  port 0 dest
		core
		  window 1 100 100
		  window 0 150 100
		  window 1 100 150
		core
		  window 2 500 200
		end`)
	watches := "begin: cyc r4\nld r5, r0, 16\nst r4, r0, 17\nhyp 3\nli r3, 1\nli r1, 0\nhyp 1\nhyp 6\nhyp 5\nadd r6, r6, r1\njmp begin"
	near := []string{"nop", "jmp 0", "ld r1, r0, 16\njmp -1", "st r1, r1, 0\naddi r1, r1, 1\njmp -2", "div r1, r1, r0", "hyp 0\njmp -1", "hyp 7", "word 0"}
	far := []string{"nop", "jmp 0", "li r1, 0\nli r2, 20\nhyp 2\njmp -3", "hyp 3\njmp -1", "div r1, r1, r0", "hyp 7"}
	r := rand.New(rand.NewPCG(1, 316))
	most := 0
	for _, a := range near {
		for _, b := range far {
			one := api.Play{Programs: programsOf(t, watches, near[0], far[0]), Picks: slices.Repeat([]int{0, 1}, 300)}
			another := api.Play{Programs: programsOf(t, watches, a, b), Feeds: []api.Feed{feed(2, 0, 4)}}
			for range 900 {
				another.Picks = append(another.Picks, r.IntN(2)*r.IntN(2))
			}
			v, e := trial.Try(c, 0, one, another)
			if e != api.OK || !v.Same || v.At != min(v.One, v.Another) {
				t.Errorf("%q, %q: %+v, error %d", a, b, v, e)
			}
			most = max(most, v.At)
			// Who receives is told by who sends; who shares the core tells and is told nothing.
			likes(t, c, 1, one, another, a == near[0], a)
			likes(t, c, 2, one, another, false, b)
		}
	}
	if most < 40 {
		t.Errorf("at most %d are seen", most)
	}
}

// R6: the same verdict comes again and again, on however many processors the two plays run, also of one play beside itself.
func TestTryAgain(t *testing.T) {
	defer runtime.GOMAXPROCS(runtime.GOMAXPROCS(0))
	for seed := range uint64(40) {
		r := rand.New(rand.NewPCG(seed, 317))
		c, p, one, another := drawnPair(t, r, 1500)
		first, _ := byHand(t, c, p, one)
		second, _ := byHand(t, c, p, another)
		for i := range 6 {
			runtime.GOMAXPROCS([]int{1, 2, 8}[i%3])
			what := fmt.Sprintf("seed %d, the try %d", seed, i)
			tries(t, c, p, one, another, api.Verdict{Same: true, At: min(len(first), len(second)), One: len(first), Another: len(second)}, what)
			tries(t, c, p, one, one, api.Verdict{Same: true, At: len(first), One: len(first), Another: len(first)}, what)
		}
	}
}

// R7, 'Ways': both goroutines have ended when Try answers, whatever it answers.
func TestGoroutinesEnd(t *testing.T) {
	c := known(t)
	one, another := knownPlays(t)
	long := picked(one, slices.Repeat([]int{0, 1}, 500)...)
	before := runtime.NumGoroutine()
	for i := range 200 {
		trial.Try(c, 0, one, another)
		trial.Try(c, 0, long, picked(another))
		trial.Try(c, 0, picked(another), long)
		trial.Try(c, 1, one, another)
		trial.Try(c, 2, one, another)
		trial.Try(c, 0, picked(one, 5), another)
		trial.Alike(c, 0, one, another)
		// A goroutine that has done its last may still be on its way out.
		for wait := 0; runtime.NumGoroutine() > before && wait < 1000; wait++ {
			time.Sleep(time.Millisecond)
		}
		if now := runtime.NumGoroutine(); now > before {
			t.Fatalf("the round %d: %d goroutines, %d at first", i, now, before)
		}
	}
}

// created tells how many goroutines have begun since the program did.
func created() int {
	x := []metrics.Sample{{Name: "/sched/goroutines-created:goroutines"}}
	metrics.Read(x)
	return int(x[0].Value.Uint64())
}

// 'Ways': each of the two plays has a goroutine of its own, and a Try that is refused has none.
func TestGoroutinesOfBoth(t *testing.T) {
	const many = 200
	c := known(t)
	one, another := knownPlays(t)
	begun := func(p int) int {
		before := created()
		for range many {
			trial.Try(c, p, one, another)
		}
		return created() - before
	}
	// The library has a few of its own, now and then.
	if n := begun(0); n < 2*many || n > 2*many+many/2 {
		t.Errorf("%d tries have begun %d goroutines, want %d", many, n, 2*many)
	}
	if n := begun(1); n > many/2 {
		t.Errorf("%d tries that are refused have begun %d goroutines", many, n)
	}
}

// R7: they have ended when Try answers, not only soon: with one processor one that is not waited for has not even begun to end.
func TestGoroutinesAreJoined(t *testing.T) {
	defer runtime.GOMAXPROCS(runtime.GOMAXPROCS(1))
	c := known(t)
	one, another := knownPlays(t)
	before, late := runtime.NumGoroutine(), 0
	for range 100 {
		tries(t, c, 0, one, another, api.Verdict{Same: true, One: 1}, "joined")
		if runtime.NumGoroutine() > before {
			late++
		}
		for runtime.NumGoroutine() > before {
			runtime.Gosched()
		}
	}
	// One may be held up behind its very last word.
	if late > 20 {
		t.Errorf("of 100 tries %d have left goroutines behind", late)
	}
}
