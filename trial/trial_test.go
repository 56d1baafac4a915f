package trial_test

import (
	"math/rand/v2"
	"slices"
	"testing"

	"bulkhead/api"
	"bulkhead/asm"
	"bulkhead/kernel"
	"bulkhead/text"
	"bulkhead/trial"
)

// configOf reads a configuration from its text.
func configOf(t *testing.T, s string) api.Config {
	t.Helper()
	c, line, e := text.Parse(s)
	if e != api.OK {
		t.Fatalf("the configuration's line %d: error %d", line, e)
	}
	return c
}

// programOf reads a program from its text.
func programOf(t *testing.T, s string) []uint32 {
	t.Helper()
	words, line, e := asm.Assemble(s)
	if e != api.OK {
		t.Fatalf("the line %d of\n%s: error %d", line, s, e)
	}
	return words
}

// programsOf reads several.
func programsOf(t *testing.T, texts ...string) (programs [][]uint32) {
	t.Helper()
	for _, s := range texts {
		programs = append(programs, programOf(t, s))
	}
	return programs
}

// feed makes a feed.
func feed(p, epoch int, words ...uint32) api.Feed {
	return api.Feed{Partition: p, Epoch: epoch, Words: words}
}

// known is the configuration of the chapter's examples.
func known(t *testing.T) api.Config {
	t.Helper()
	return configOf(t, `
		memory 16
		major 400
		kernel 8 8
		partition a entry 0 action halt restarts 0 inputs 1 outputs 1
		  region 0 1 2 rwx
		partition b entry 0 action halt restarts 0 inputs 1 outputs 0
		  region 0 1 3 rwx
		core
		  window 0 300 100
		core
		  window 1 300 100
		end`)
}

// knownPlays are the two plays of the examples: unlike in partition 1's program, its feeds and the picks alone.
func knownPlays(t *testing.T) (one, another api.Play) {
	t.Helper()
	first := programOf(t, "hyp 4\nmov r1, r2\nhyp 5\nhyp 7")
	one = api.Play{Programs: [][]uint32{first}, Feeds: []api.Feed{feed(0, 0, 77)}, Picks: []int{0, 0, 0, 0, 0}}
	another = api.Play{
		Programs: [][]uint32{first, programOf(t, "nop")},
		Feeds:    []api.Feed{feed(1, 0, 5), feed(0, 0, 77)},
		Picks:    []int{1, 0, 1, 0, 1, 0},
	}
	return one, another
}

// picked is the same play with other picks.
func picked(x api.Play, picks ...int) api.Play {
	x.Picks = picks
	return x
}

// holds asks what Hold answers of two lists, and of the same ones the other way round.
func holds(t *testing.T, a, b []api.Seen, want api.Verdict) {
	t.Helper()
	if got := trial.Hold(a, b); got != want {
		t.Errorf("Hold of %d and %d: %+v, want %+v", len(a), len(b), got, want)
	}
	want.One, want.Another = want.Another, want.One
	if got := trial.Hold(b, a); got != want {
		t.Errorf("Hold of %d and %d, the other way round: %+v, want %+v", len(a), len(b), got, want)
	}
}

// likes asks what Alike answers, and that it answers the same the other way round.
func likes(t *testing.T, c api.Config, p int, one, another api.Play, want bool, what string) {
	t.Helper()
	if got, e := trial.Alike(c, p, one, another); got != want || e != api.OK {
		t.Errorf("%s: Alike of %d: %v, error %d, want %v", what, p, got, e, want)
	}
	if got, e := trial.Alike(c, p, another, one); got != want || e != api.OK {
		t.Errorf("%s: Alike of %d, the other way round: %v, error %d, want %v", what, p, got, e, want)
	}
}

// tries asks what Try answers of two plays that go well.
func tries(t *testing.T, c api.Config, p int, one, another api.Play, want api.Verdict, what string) {
	t.Helper()
	if got, e := trial.Try(c, p, one, another); got != want || e != api.OK {
		t.Fatalf("%s: Try of %d: %+v, error %d, want %+v", what, p, got, e, want)
	}
}

// refuses asks that Alike and Try answer the same error, and nothing beside it.
func refuses(t *testing.T, c api.Config, p int, one, another api.Play, want api.Errno, what string) {
	t.Helper()
	if got, e := trial.Alike(c, p, one, another); got || e != want {
		t.Errorf("%s: Alike of %d: %v, error %d, want error %d", what, p, got, e, want)
	}
	if got, e := trial.Try(c, p, one, another); got != (api.Verdict{}) || e != want {
		t.Errorf("%s: Try of %d: %+v, error %d, want error %d", what, p, got, e, want)
	}
}

// parts asks that Try refuses two plays as they need not look alike.
func parts(t *testing.T, c api.Config, p int, one, another api.Play, what string) {
	t.Helper()
	likes(t, c, p, one, another, false, what)
	for _, x := range [][2]api.Play{{one, another}, {another, one}} {
		if got, e := trial.Try(c, p, x[0], x[1]); got != (api.Verdict{}) || e != api.ErrTrialPair {
			t.Errorf("%s: Try of %d: %+v, error %d, want ErrTrialPair", what, p, got, e)
		}
	}
}

// machine boots that of a play, which must go well.
func machine(t *testing.T, c api.Config, x api.Play) *kernel.Kernel {
	t.Helper()
	k, e := kernel.New(c, x.Programs, x.Feeds)
	if k == nil || e != api.OK {
		t.Fatalf("New: %v, error %d", k, e)
	}
	return k
}

// byHand plays a play step by step: what a partition has seen, and the machine behind it.
func byHand(t *testing.T, c api.Config, p int, x api.Play) (seen []api.Seen, k *kernel.Kernel) {
	t.Helper()
	k = machine(t, c, x)
	for _, core := range x.Picks {
		turn, e := k.Step(core)
		if e != api.OK {
			t.Fatalf("Step(%d): error %d", core, e)
		}
		for _, s := range turn.Seen {
			if s.Partition == p {
				seen = append(seen, s)
			}
		}
	}
	return seen, k
}

// The section 'Errors'.
func TestNumbers(t *testing.T) {
	if api.ErrLong != 2 || api.ErrTrialPlay != 310 || api.ErrFlowPartition != 130 || api.ErrTrialPair != 311 || api.MaxPicks != 65536 {
		t.Error("an error or a limit has another number")
	}
}

// P31.1, P31.2, P31.3, the examples.
func TestExamples(t *testing.T) {
	x, y, z := api.Seen{Cycle: 1}, api.Seen{Cycle: 2}, api.Seen{Cycle: 3}
	holds(t, nil, nil, api.Verdict{Same: true})
	holds(t, []api.Seen{x, y}, []api.Seen{x, y, z}, api.Verdict{Same: true, At: 2, One: 2, Another: 3})
	holds(t, []api.Seen{x, y}, []api.Seen{x, z, z}, api.Verdict{At: 1, One: 2, Another: 3})

	c := known(t)
	one, another := knownPlays(t)
	likes(t, c, 0, one, another, true, "the examples")
	tries(t, c, 0, one, another, api.Verdict{Same: true, One: 1}, "the examples")
	tries(t, c, 0, another, one, api.Verdict{Same: true, Another: 1}, "the other way round")
	parts(t, c, 1, one, another, "the examples")
	refuses(t, c, 2, one, one, api.ErrFlowPartition, "no such partition")
	refuses(t, c, 0, one, picked(one, 2), api.ErrTrialPlay, "a pick of no core")
	refuses(t, c, 9, one, picked(one, 2), api.ErrTrialPlay, "a pick of no core, no such partition")
	refuses(t, c, 0, picked(one, make([]int, 65537)...), one, api.ErrLong, "65537 picks")
	refuses(t, c, 0, one, picked(one, make([]int, 65537)...), api.ErrLong, "65537 picks")
}

// fields are ways in which one Seen may be another than a second one: each in one field alone.
func fields() (out []func(*api.Seen)) {
	out = []func(*api.Seen){
		func(x *api.Seen) { x.Partition++ }, func(x *api.Seen) { x.Epoch++ }, func(x *api.Seen) { x.Cycle++ },
		func(x *api.Seen) { x.PC++ }, func(x *api.Seen) { x.Word++ }, func(x *api.Seen) { x.Trap++ },
		func(x *api.Seen) { x.Read = !x.Read }, func(x *api.Seen) { x.Addr++ }, func(x *api.Seen) { x.Value++ },
		func(x *api.Seen) { x.After.PC ^= 1 << 31 },
	}
	for r := range api.Registers {
		out = append(out, func(x *api.Seen) { x.After.Regs[r] ^= 1 << 31 })
	}
	return out
}

// seenSo is a list of so many, none as another one.
func seenSo(many int) (out []api.Seen) {
	for i := range many {
		x := api.Seen{Partition: 1, Epoch: i / 3, Cycle: 14 * i, PC: uint32(i), Word: 7, Trap: i % 2, Read: i%3 == 0, Addr: 5, Value: uint32(i)}
		x.After.Regs[i%api.Registers] = 9
		out = append(out, x)
	}
	return out
}

// P31.1: two Seen are the same, if all of their fields are; the first place at which two differ is told, whichever field it is.
func TestHoldFields(t *testing.T) {
	for f, change := range fields() {
		for at := range 5 {
			for _, more := range []int{0, 1, 4} {
				a, b := seenSo(5), seenSo(5+more)
				change(&b[at])
				if t.Failed() {
					t.Fatalf("the field %d", f)
				}
				holds(t, a, b, api.Verdict{At: at, One: 5, Another: 5 + more})
				// Places behind the first one count nothing.
				for _, also := range fields() {
					if at < 4 {
						also(&b[4])
					}
				}
				holds(t, a, b, api.Verdict{At: at, One: 5, Another: 5 + more})
			}
		}
	}
}

// P31.1: where one begins the other, the length of the shorter one is told, be it none.
func TestHoldBegins(t *testing.T) {
	for a := range 7 {
		for b := range 7 {
			holds(t, seenSo(a), seenSo(b), api.Verdict{Same: true, At: min(a, b), One: a, Another: b})
		}
	}
	for _, none := range [][]api.Seen{nil, {}, make([]api.Seen, 0, 8)} {
		holds(t, none, nil, api.Verdict{Same: true})
		holds(t, none, []api.Seen{}, api.Verdict{Same: true})
		holds(t, none, []api.Seen{{}}, api.Verdict{Same: true, Another: 1})
		holds(t, none, seenSo(3), api.Verdict{Same: true, Another: 3})
	}
	same := seenSo(6)
	holds(t, same, same, api.Verdict{Same: true, At: 6, One: 6, Another: 6})
	holds(t, same, same[:2], api.Verdict{Same: true, At: 2, One: 6, Another: 2})
	holds(t, same[1:], same, api.Verdict{One: 5, Another: 6})
}

// P31.1, P31.6: the verdict over drawn lists of few unlike things, and the other way round.
func TestHoldDrawn(t *testing.T) {
	r := rand.New(rand.NewPCG(1, 310))
	told := map[bool]int{}
	for range 5000 {
		var lists [2][]api.Seen
		for i := range lists {
			for range r.IntN(6) {
				lists[i] = append(lists[i], api.Seen{PC: uint32(r.IntN(6) / 5)})
			}
		}
		a, b := lists[0], lists[1]
		at := 0
		for at < len(a) && at < len(b) && slices.Equal(a[:at+1], b[:at+1]) {
			at++
		}
		begins := at == len(a) || at == len(b)
		told[begins]++
		holds(t, a, b, api.Verdict{Same: begins, At: at, One: len(a), Another: len(b)})
	}
	if told[true] < 500 || told[false] < 500 {
		t.Errorf("drawn too narrowly: %v", told)
	}
}

// R5: what Hold is handed stays as it is, the room behind it too.
func TestHoldChangesNothing(t *testing.T) {
	a, b := seenSo(9), seenSo(12)
	b[4].PC++
	trial.Hold(a[:6], b[:7])
	want := seenSo(12)
	want[4].PC++
	if !slices.Equal(a, seenSo(9)) || !slices.Equal(b, want) {
		t.Error("Hold has changed a list")
	}
}
