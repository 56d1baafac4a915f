package audit

import (
	"slices"
	"testing"

	"bulkhead/api"
)

// A machine that kernel makes has none of these problems, so what is asked of a core is asked here of cores that no machine has.

// P28.3: a core's epoch is the machine's, or one less.
func TestEpochs(t *testing.T) {
	for _, x := range []struct {
		epoch, machine int
		want           bool
	}{
		{0, 0, true}, {0, 1, true}, {1, 1, true}, {1, 0, false}, {0, 2, false}, {2, 0, false}, {-1, 1, false},
		{api.MaxEpoch, api.MaxEpoch, true}, {api.MaxEpoch - 1, api.MaxEpoch, true}, {api.MaxEpoch - 2, api.MaxEpoch, false}, {api.MaxEpoch, api.MaxEpoch - 1, false},
	} {
		if got := rightEpoch(x.epoch, x.machine); got != x.want {
			t.Errorf("a core in %d, the machine in %d: %v", x.epoch, x.machine, got)
		}
	}
}

// P28.3: in the modes run and call the window's partition is whose time it is; where Used passes the window its last cycle counts.
func TestWindows(t *testing.T) {
	c := api.Config{Major: 800, Cores: [][]api.Window{
		{{Partition: -1, Usable: 700, Slack: 100}},
		{{Partition: 0, Usable: 100, Slack: 100}, {Partition: 1, Usable: 200, Slack: 100}, {Partition: -1, Usable: 200, Slack: 100}},
	}, Partitions: make([]api.Partition, 3)}
	for _, x := range []struct {
		core, window, used, partition int
		want                          bool
	}{
		{0, 0, 0, -1, true}, {0, 0, 0, 0, false}, {0, 0, 5000, -1, true},
		{1, 0, 0, 0, true}, {1, 0, 0, 1, false}, {1, 0, 0, -1, false}, {1, 0, 0, 2, false},
		{1, 0, 199, 0, true}, {1, 0, 200, 0, true}, {1, 0, 200, 1, false}, {1, 0, 1 << 40, 0, true},
		{1, 1, 0, 1, true}, {1, 1, 0, 0, false}, {1, 1, 299, 1, true}, {1, 1, 300, 1, true}, {1, 1, 300, -1, false},
		{1, 2, 0, -1, true}, {1, 2, 0, 1, false}, {1, 2, 299, -1, true}, {1, 2, 300, -1, true}, {1, 2, 9999, -1, true},
		{1, 3, 0, -1, false}, {1, -1, 0, 0, false}, {2, 0, 0, 0, false}, {-1, 0, 0, 0, false},
		{1, 1, -1, 1, false}, {1, 0, -1, 0, false},
	} {
		for _, mode := range []int{api.ModeRun, api.ModeCall} {
			v := api.CoreView{Window: x.window, Used: x.used, Mode: mode, Partition: x.partition}
			if got := rightWindow(c, x.core, v); got != x.want {
				t.Errorf("core %d, %+v: %v", x.core, v, got)
			}
		}
		for _, mode := range []int{api.ModeArrive, api.ModeWait, api.ModeEnd} {
			v := api.CoreView{Window: x.window, Used: x.used, Mode: mode, Partition: x.partition}
			if !rightWindow(c, x.core, v) {
				t.Errorf("core %d, %+v: is in no window", x.core, v)
			}
		}
	}
}

// P28.3: the cores with a wrong epoch, a wrong window or both, each once, behind what has been noted.
func TestCores(t *testing.T) {
	window := []api.Window{{Partition: 0, Usable: 100, Slack: 100}}
	c := api.Config{Major: 200, Cores: [][]api.Window{window, window, window, window}, Partitions: make([]api.Partition, 2)}
	f := findings{{Kind: api.ProblemLock, Index: 1, At: 7}}
	f.noteCores(c, 6, []api.CoreView{
		{Epoch: 4, Mode: api.ModeRun, Partition: 1},
		{Epoch: 5, Mode: api.ModeRun},
		{Epoch: 6, Mode: api.ModeCall, Partition: 1},
		{Epoch: 7, Mode: api.ModeWait, Partition: -1},
	})
	want := findings{{Kind: api.ProblemLock, Index: 1, At: 7}, {Kind: api.ProblemCore, Index: 0}, {Kind: api.ProblemCore, Index: 2}, {Kind: api.ProblemCore, Index: 3}}
	if !slices.Equal(f, want) {
		t.Errorf("%v, want %v", f, want)
	}
}
