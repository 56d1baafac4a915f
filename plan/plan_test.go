package plan_test

import (
	"math"
	"reflect"
	"slices"
	"testing"

	"bulkhead/api"
	"bulkhead/plan"
)

// example is the configuration of the document's examples.
func example() api.Config {
	return made(400, 2,
		[]api.Window{{Partition: 0, Usable: 100, Slack: 82}, {Partition: -1, Usable: 36}, {Partition: 0, Usable: 100, Slack: 82}},
		[]api.Window{{Partition: 1, Usable: 318, Slack: 82}})
}

// made is a configuration of that frame, with so many partitions and these cores.
func made(major, partitions int, cores ...[]api.Window) api.Config {
	return api.Config{Major: major, Cores: cores, Partitions: make([]api.Partition, partitions)}
}

// win is a window.
func win(partition, usable, slack int) api.Window {
	return api.Window{Partition: partition, Usable: usable, Slack: slack}
}

// row is a plan of so many windows, all alike.
func row(n int, w api.Window) []api.Window { return slices.Repeat([]api.Window{w}, n) }

// wrongs are plans that may just not be.
func wrongs() map[string][]api.Window {
	return map[string][]api.Window{
		"nil":                 nil,
		"empty":               {},
		"seventeen windows":   row(api.MaxWindows+1, win(0, 1, 0)),
		"Usable -1":           {win(0, 10, 10), win(0, -1, 11)},
		"Slack -1":            {win(0, 11, -1), win(0, 10, 10)},
		"Usable too great":    {win(0, api.MaxMajor+1, 0)},
		"Slack too great":     {win(0, 0, api.MaxMajor+1)},
		"Usable the greatest": {win(0, math.MaxInt, 1)},
		"Slack the least":     {win(0, 30, math.MinInt)},
		"last one is wrong":   append(row(api.MaxWindows-1, win(0, 1, 0)), win(0, 0, -1)),
	}
}

// P14.1, the examples.
func TestAtExamples(t *testing.T) {
	c := example()
	for _, x := range []struct {
		core, time int
		want       api.Place
		e          api.Errno
	}{
		{0, 0, api.Place{Window: 0, Partition: 0, Offset: 0, End: 182}, api.OK},
		{0, 181, api.Place{Window: 0, Partition: 0, Offset: 181, End: 182}, api.OK},
		{0, 182, api.Place{Window: 1, Partition: -1, Offset: 0, End: 218}, api.OK},
		{0, 217, api.Place{Window: 1, Partition: -1, Offset: 35, End: 218}, api.OK},
		{0, 218, api.Place{Window: 2, Partition: 0, Offset: 0, End: 400}, api.OK},
		{0, 399, api.Place{Window: 2, Partition: 0, Offset: 181, End: 400}, api.OK},
		{1, 399, api.Place{Window: 0, Partition: 1, Offset: 399, End: 400}, api.OK},
		{0, 400, api.Place{}, 141},
		{1, 400, api.Place{}, 141},
		{0, -1, api.Place{}, 141},
		{0, math.MinInt, api.Place{}, 141},
		{0, math.MaxInt, api.Place{}, 141},
		{2, 0, api.Place{}, 140},
		{-1, 0, api.Place{}, 140},
		{math.MaxInt, 0, api.Place{}, 140},
		{math.MinInt, 0, api.Place{}, 140},
	} {
		if got, e := plan.At(c, x.core, x.time); got != x.want || e != x.e {
			t.Errorf("At(c, %d, %d) = %v, %d, want %v, %d", x.core, x.time, got, e, x.want, x.e)
		}
	}
}

// P14.1: a window without cycles is never the one, wherever it stands.
func TestAtWindowWithoutCycles(t *testing.T) {
	c := made(0, 0, []api.Window{win(0, 0, 0), win(1, 0, 5), win(2, 0, 0), win(3, 0, 0), win(4, 7, 0), win(5, 0, 0)})
	for time := range 12 {
		want := api.Place{Window: 1, Partition: 1, Offset: time, End: 5}
		if time >= 5 {
			want = api.Place{Window: 4, Partition: 4, Offset: time - 5, End: 12}
		}
		if got, e := plan.At(c, 0, time); got != want || e != api.OK {
			t.Errorf("At(c, 0, %d) = %v, %d, want %v", time, got, e, want)
		}
	}
	for _, time := range []int{-1, 12, 13} {
		if got, e := plan.At(c, 0, time); got != (api.Place{}) || e != api.ErrPlanTime {
			t.Errorf("At(c, 0, %d) = %v, %d", time, got, e)
		}
	}
	none := made(400, 1, row(3, win(0, 0, 0)))
	if got, e := plan.At(none, 0, 0); got != (api.Place{}) || e != api.ErrPlanTime {
		t.Errorf("At of a plan without cycles = %v, %d", got, e)
	}
}

// P14.1: Major, the partitions and the other cores' plans are not asked; whose a window is, is told as it stands there.
func TestAtAsksItsCoreAlone(t *testing.T) {
	c := made(-5, 0, []api.Window{win(math.MaxInt, 3, 4)}, nil, []api.Window{win(math.MinInt, 1, 0)}, []api.Window{win(0, -1, 0)}, []api.Window{win(-7, 0, 1)})
	for core, want := range map[int]api.Place{
		0: {Partition: math.MaxInt, Offset: 0, End: 7},
		2: {Partition: math.MinInt, Offset: 0, End: 1},
		4: {Partition: -7, Offset: 0, End: 1},
	} {
		if got, e := plan.At(c, core, 0); got != want || e != api.OK {
			t.Errorf("At(c, %d, 0) = %v, %d, want %v", core, got, e, want)
		}
	}
}

// P14.1, P14.2: a plan that may not be is refused ahead of a time, behind a core.
func TestWrongPlanOfACore(t *testing.T) {
	for name, windows := range wrongs() {
		c := made(21, 1, []api.Window{win(0, 21, 0)}, windows)
		for _, time := range []int{-1, 0, 1 << 40} {
			if got, e := plan.At(c, 1, time); got != (api.Place{}) || e != 1 {
				t.Errorf("%s: At(c, 1, %d) = %v, %d, want ErrArg", name, time, got, e)
			}
		}
		if got, e := plan.Starts(c, 1); got != nil || e != 1 {
			t.Errorf("%s: Starts(c, 1) = %v, %d, want ErrArg", name, got, e)
		}
		for _, core := range []int{-1, 2} {
			if got, e := plan.At(c, core, -1); got != (api.Place{}) || e != api.ErrPlanCore {
				t.Errorf("%s: At(c, %d, -1) = %v, %d, want ErrPlanCore", name, core, got, e)
			}
			if got, e := plan.Starts(c, core); got != nil || e != api.ErrPlanCore {
				t.Errorf("%s: Starts(c, %d) = %v, %d, want ErrPlanCore", name, core, got, e)
			}
		}
		if got, e := plan.Starts(c, 0); !slices.Equal(got, []int{0}) || e != api.OK {
			t.Errorf("%s: Starts(c, 0) = %v, %d", name, got, e)
		}
	}
}

// P14.2, the examples, and a plan with as much of everything as may be.
func TestStarts(t *testing.T) {
	c := example()
	for core, want := range [][]int{{0, 182, 218}, {0}} {
		if got, e := plan.Starts(c, core); !slices.Equal(got, want) || e != api.OK {
			t.Errorf("Starts(c, %d) = %v, %d, want %v", core, got, e, want)
		}
	}
	for _, core := range []int{-1, 2, math.MinInt, math.MaxInt} {
		if got, e := plan.Starts(c, core); got != nil || e != 140 {
			t.Errorf("Starts(c, %d) = %v, %d, want ErrPlanCore", core, got, e)
		}
	}
	if got, e := plan.Starts(api.Config{}, 0); got != nil || e != 140 {
		t.Errorf("Starts without cores = %v, %d", got, e)
	}
	most := made(1, 0, row(api.MaxWindows, win(0, api.MaxMajor, api.MaxMajor)))
	got, e := plan.Starts(most, 0)
	for i := range api.MaxWindows {
		if e != api.OK || len(got) != api.MaxWindows || got[i] != i*32768 {
			t.Fatalf("Starts of the greatest plan = %v, %d", got, e)
		}
	}
	if p, e := plan.At(most, 0, 16*32768-1); p != (api.Place{Window: 15, Offset: 32767, End: 16 * 32768}) || e != api.OK {
		t.Errorf("At in the greatest plan = %v, %d", p, e)
	}
	if got, e := plan.Starts(made(1, 0, row(3, win(0, 0, 0))), 0); !slices.Equal(got, []int{0, 0, 0}) || e != api.OK {
		t.Errorf("Starts of windows without cycles = %v, %d", got, e)
	}
}

// P14.3.
func TestCore(t *testing.T) {
	c := example()
	c.Partitions = make([]api.Partition, 3)
	c.Cores = append(c.Cores, []api.Window{win(1, 1, 1), win(0, 1, 1)})
	for _, x := range []struct {
		p, want int
		e       api.Errno
	}{{0, 0, 0}, {1, 1, 0}, {2, -1, 0}, {3, 0, 142}, {-1, 0, 142}, {math.MaxInt, 0, 142}, {math.MinInt, 0, 142}} {
		if got, e := plan.Core(c, x.p); got != x.want || e != x.e {
			t.Errorf("Core(c, %d) = %d, %d, want %d, %d", x.p, got, e, x.want, x.e)
		}
	}
	if got, e := plan.Core(example(), 2); got != 0 || e != api.ErrPlanPartition {
		t.Errorf("Core(c, 2) = %d, %d", got, e)
	}
	if got, e := plan.Core(made(400, 1), 0); got != -1 || e != api.OK {
		t.Errorf("Core without cores = %d, %d", got, e)
	}
}

// P14.3: no plan is refused: windows that may not be are windows, too.
func TestCoreOfWrongPlans(t *testing.T) {
	cores := row(30, win(-1, -1, -1))
	c := made(0, 2, nil, cores, []api.Window{win(-1, -9, 1<<40), win(1, -9, 1<<40)}, row(40, win(0, -1, 0)))
	for p, want := range []int{3, 2} {
		if got, e := plan.Core(c, p); got != want || e != api.OK {
			t.Errorf("Core(c, %d) = %d, %d, want %d", p, got, e, want)
		}
	}
}

// P14.4.
func TestSpans(t *testing.T) {
	c := example()
	c.Partitions = make([]api.Partition, 3)
	for p, want := range [][]api.Span{
		{{Core: 0, Window: 0, From: 0, To: 182}, {Core: 0, Window: 2, From: 218, To: 400}},
		{{Core: 1, Window: 0, From: 0, To: 400}},
		nil,
	} {
		if got, e := plan.Spans(c, p); !slices.Equal(got, want) || e != api.OK {
			t.Errorf("Spans(c, %d) = %v, %d, want %v", p, got, e, want)
		}
	}
	for _, p := range []int{-1, 3, math.MinInt, math.MaxInt} {
		if got, e := plan.Spans(c, p); got != nil || e != 142 {
			t.Errorf("Spans(c, %d) = %v, %d, want ErrPlanPartition", p, got, e)
		}
	}
	if got, e := plan.Spans(made(400, 1), 0); len(got) != 0 || e != api.OK {
		t.Errorf("Spans without cores = %v, %d", got, e)
	}
}

// P14.4: windows on several cores, and without cycles, are told; Major is not asked, the number of cores neither.
func TestSpansOfManyCores(t *testing.T) {
	c := made(0, 2, []api.Window{win(1, 2, 3), win(0, 0, 0)}, []api.Window{win(9, 1, 1)}, []api.Window{win(0, 1, 2), win(0, 3, 4)},
		[]api.Window{win(-1, 1, 1)}, []api.Window{win(-1, 1, 0), win(0, 1, 1)})
	want := []api.Span{{Core: 0, Window: 1, From: 5, To: 5}, {Core: 2, Window: 0, From: 0, To: 3}, {Core: 2, Window: 1, From: 3, To: 10}, {Core: 4, Window: 1, From: 1, To: 3}}
	if got, e := plan.Spans(c, 0); !slices.Equal(got, want) || e != api.OK {
		t.Errorf("Spans(c, 0) = %v, %d, want %v", got, e, want)
	}
}

// P14.5, the examples, a partition on two cores, one without windows.
func TestShare(t *testing.T) {
	c := made(400, 4, example().Cores...)
	c.Cores = append(c.Cores, []api.Window{win(2, 100, 0), win(1, 300, 0)}, []api.Window{win(2, 0, 1), win(2, 33, 366)})
	for p, want := range []float64{0.5, 618.0 / 400.0, 133.0 / 400.0, 0} {
		if got, e := plan.Share(c, p); got != want || e != api.OK {
			t.Errorf("Share(c, %d) = %v, %d, want %v", p, got, e, want)
		}
	}
	for p, want := range []float64{0.5, 0.795} {
		if got, e := plan.Share(example(), p); got != want || e != api.OK {
			t.Errorf("Share(example, %d) = %v, %d, want %v", p, got, e, want)
		}
	}
	if got, e := plan.Share(made(1, 1), 0); got != 0 || e != api.OK {
		t.Errorf("Share without cores = %v, %d", got, e)
	}
	if got, e := plan.Share(made(10, 1, []api.Window{win(0, 1, 2), win(0, 1, 2), win(0, 1, 3)}), 0); got != 3.0/10.0 || e != api.OK {
		t.Errorf("Share = %v, %d, want one division: 0.3", got, e)
	}
}

// P14.6, the examples, and where the longest time lies.
func TestGap(t *testing.T) {
	for _, x := range []struct {
		windows []api.Window
		want    int
	}{
		{[]api.Window{win(0, 60, 40)}, 0},
		{[]api.Window{win(-1, 100, 0)}, 100},
		{[]api.Window{win(1, 10, 0), win(0, 50, 10), win(1, 20, 10)}, 40},
		{[]api.Window{win(0, 50, 10), win(1, 20, 20)}, 40},
		{[]api.Window{win(1, 20, 20), win(0, 50, 10)}, 40},
		{[]api.Window{win(0, 10, 0), win(1, 3, 0), win(0, 10, 0), win(1, 50, 0), win(0, 20, 7)}, 50},
		{[]api.Window{win(0, 10, 0), win(1, 30, 0), win(0, 10, 0), win(1, 25, 4), win(0, 20, 1)}, 30},
		{[]api.Window{win(1, 5, 0), win(0, 50, 0), win(0, 10, 0), win(1, 35, 0)}, 40},
		{[]api.Window{win(0, 50, 0), win(0, 50, 0)}, 0},
		{[]api.Window{win(1, 30, 0), win(0, 0, 0), win(1, 70, 0)}, 100},
		{[]api.Window{win(1, 30, 0), win(0, 0, 0), win(1, 60, 0), win(0, 0, 0), win(1, 10, 0)}, 60},
		{[]api.Window{win(0, 0, 0), win(1, 45, 0), win(0, 10, 0), win(1, 45, 0), win(0, 0, 0)}, 45},
	} {
		for _, c := range []api.Config{made(100, 2, x.windows), made(100, 2, []api.Window{win(1, 100, 0)}, x.windows, []api.Window{win(-1, 0, 100)})} {
			if got, e := plan.Gap(c, 0); got != x.want || e != api.OK {
				t.Errorf("Gap of %v = %d, %d, want %d", c.Cores, got, e, x.want)
			}
		}
	}
	for p, want := range []int{36, 0} {
		if got, e := plan.Gap(example(), p); got != want || e != api.OK {
			t.Errorf("Gap(example, %d) = %d, %d, want %d", p, got, e, want)
		}
	}
	if got, e := plan.Gap(made(77, 1), 0); got != 77 || e != api.OK {
		t.Errorf("Gap without cores = %d, %d", got, e)
	}
}

// P14.6: windows on two cores or more, even one without cycles; another partition's are nothing to it.
func TestGapOnTwoCores(t *testing.T) {
	c := made(10, 3, []api.Window{win(1, 10, 0)}, []api.Window{win(0, 5, 0), win(2, 5, 0)}, []api.Window{win(2, 10, 0)}, []api.Window{win(2, 10, 0), win(0, 0, 0)})
	for p, want := range []api.Errno{api.ErrArg, api.OK, api.ErrArg} {
		if got, e := plan.Gap(c, p); got != 0 || e != want {
			t.Errorf("Gap(c, %d) = %d, %d, want %d", p, got, e, want)
		}
	}
}

// P14.4 to P14.6: which configurations are refused, and that no such partition comes first.
func TestWrongConfigurations(t *testing.T) {
	for name, windows := range wrongs() {
		for _, cores := range [][][]api.Window{{windows, {win(0, 21, 0)}}, {{win(0, 21, 0)}, windows}} {
			c := made(21, 1, cores...)
			for p, want := range map[int]api.Errno{0: api.ErrArg, 1: api.ErrPlanPartition, -1: api.ErrPlanPartition} {
				if got, e := plan.Spans(c, p); got != nil || e != want {
					t.Errorf("%s: Spans(c, %d) = %v, %d, want %d", name, p, got, e, want)
				}
				if got, e := plan.Share(c, p); got != 0 || e != want {
					t.Errorf("%s: Share(c, %d) = %v, %d, want %d", name, p, got, e, want)
				}
				if got, e := plan.Gap(c, p); got != 0 || e != want {
					t.Errorf("%s: Gap(c, %d) = %v, %d, want %d", name, p, got, e, want)
				}
			}
		}
	}
}

// P14.5, P14.6: a frame that may not be, or that some core's windows do not fill; 'Errors': the numbers.
func TestFrames(t *testing.T) {
	whole := func(major int) []api.Window { return []api.Window{win(0, major/2, major-major/2)} }
	for _, x := range []struct {
		c    api.Config
		want api.Errno
	}{
		{made(1, 1, whole(1)), 0},
		{made(api.MaxMajor, 1, whole(api.MaxMajor)), 0},
		{made(0, 1, whole(0)), 1},
		{made(0, 1), 1},
		{made(-1, 1), 1},
		{made(math.MinInt, 1), 1},
		{made(api.MaxMajor+1, 1, whole(api.MaxMajor+1)), 1},
		{made(math.MaxInt, 1), 1},
		{made(10, 1, whole(9)), 1},
		{made(10, 1, whole(11)), 1},
		{made(10, 1, []api.Window{win(-1, 10, 0)}, whole(9)), 1},
		{made(10, 1, []api.Window{win(-1, 11, 0)}, whole(10)), 1},
		{made(10, 1, []api.Window{win(-1, 10, 0)}, whole(10), []api.Window{win(-1, 0, 0)}), 1},
		{made(10, 1, whole(10), row(10, win(-1, 1, 0)), []api.Window{win(-1, 0, 0), win(-1, 0, 10)}, []api.Window{win(-1, 5, 5)}, []api.Window{win(-1, 10, 0)}), 0},
	} {
		if got, e := plan.Share(x.c, 0); e != x.want || e != api.OK && got != 0 {
			t.Errorf("Share of Major %d, %v = %v, %d, want %d", x.c.Major, x.c.Cores, got, e, x.want)
		}
		if got, e := plan.Gap(x.c, 0); e != x.want || got != 0 {
			t.Errorf("Gap of Major %d, %v = %v, %d, want %d", x.c.Major, x.c.Cores, got, e, x.want)
		}
		for _, p := range []int{-1, 1} {
			if got, e := plan.Share(x.c, p); got != 0 || e != 142 {
				t.Errorf("Share(c, %d) = %v, %d, want ErrPlanPartition", p, got, e)
			}
			if got, e := plan.Gap(x.c, p); got != 0 || e != 142 {
				t.Errorf("Gap(c, %d) = %v, %d, want ErrPlanPartition", p, got, e)
			}
		}
	}
}

// P14.7, the examples, the edges of Usable / 25 and of the number of cores.
func TestRounds(t *testing.T) {
	one := func(usable int) []api.Window { return []api.Window{win(-1, usable, 82)} }
	wrong := example()
	wrong.Cores[1][0].Usable = -1
	for _, x := range []struct {
		name string
		c    api.Config
		want int
	}{
		{"the example", example(), 532},
		{"Usable -1", wrong, 0},
		{"no core", api.Config{}, 0},
		{"a window without cycles", made(0, 0, row(1, win(3, 0, 0))), 4 + 2 + 12},
		{"24 cycles", made(0, 0, one(24)), 4 + 26 + 12},
		{"25 cycles", made(0, 0, one(25)), 4 + 27 + 24},
		{"two cores", made(0, 0, one(50), one(49)), 4 + 52 + 3*16},
		{"the second one is the longest", made(0, 0, one(49), one(50)), 4 + 52 + 3*16},
		{"three cores", made(0, 0, one(0), one(0), one(25)), 4 + 27 + 2*20},
		{"four cores", made(0, 0, one(0), one(0), one(0), one(75)), 4 + 77 + 4*24},
		{"five cores", made(0, 0, one(0), one(0), one(0), one(0), one(0)), 0},
		{"the most", made(0, 0, row(16, win(0, 16384, 16384)), one(1), one(1), one(1)), 4 + 16*(16386+656*24)},
		{"three windows", made(0, 0, []api.Window{win(0, 24, 5), win(1, 26, 0), win(-1, 50, 9)}), 4 + 38 + 52 + 88},
	} {
		if got := plan.Rounds(x.c); got != x.want {
			t.Errorf("%s: Rounds = %d, want %d", x.name, got, x.want)
		}
	}
	for name, windows := range wrongs() {
		for _, c := range []api.Config{made(21, 1, windows), made(21, 1, one(1), windows), made(21, 1, windows, one(1))} {
			if got := plan.Rounds(c); got != 0 {
				t.Errorf("%s: Rounds = %d, want 0", name, got)
			}
		}
	}
}

// R5: what is handed in stays as it is, what is told shares nothing with it nor with what is told next.
func TestNothingIsShared(t *testing.T) {
	c := example()
	for i, windows := range c.Cores {
		room := append(slices.Clone(windows), win(77, 7, 7), win(78, 8, 8))
		c.Cores[i] = room[:len(windows):len(room)]
	}
	ask := func() (l []any) {
		starts, _ := plan.Starts(c, 0)
		spans, _ := plan.Spans(c, 0)
		place, _ := plan.At(c, 0, 217)
		core, _ := plan.Core(c, 1)
		share, _ := plan.Share(c, 0)
		gap, _ := plan.Gap(c, 0)
		return []any{starts, spans, place, core, share, gap, plan.Rounds(c)}
	}
	first, second := ask(), ask()
	starts, spans := first[0].([]int), first[1].([]api.Span)
	starts, spans = starts[:cap(starts)], spans[:cap(spans)]
	for i := range starts {
		starts[i] = -9
	}
	for i := range spans {
		spans[i] = api.Span{Core: -9}
	}
	if !reflect.DeepEqual(ask(), second) {
		t.Errorf("asked again: %v, want %v", ask(), second)
	}
	want := example()
	for i, windows := range c.Cores {
		n := len(windows)
		if !slices.Equal(windows[:n+2], append(want.Cores[i], win(77, 7, 7), win(78, 8, 8))) {
			t.Errorf("core %d has become %v", i, windows[:n+2])
		}
	}
}
