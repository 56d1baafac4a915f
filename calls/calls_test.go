package calls_test

import (
	"slices"
	"testing"

	"bulkhead/api"
	"bulkhead/boot"
	"bulkhead/calls"
	"bulkhead/health"
	"bulkhead/mem"
)

// known is the configuration of the chapter's examples. Its kernel's words: the locks of the partitions at 50, 74, 98, their states at 69, 93, 117; channel 0: lock 122, stage 124, ports 128 and 133; channel 1: lock 138, stage 140, port 145.
func known() api.Config {
	return api.Config{
		Frames: 16, Major: 600, Kernel: 3, Room: 13,
		Cores:    [][]api.Window{{{Partition: 0, Usable: 100, Slack: 100}, {Partition: 1, Usable: 100, Slack: 100}, {Partition: 2, Usable: 100, Slack: 100}}},
		Channels: []api.Channel{{Kind: api.KindSampling, Words: 2}, {Kind: api.KindQueuing, Words: 1, Depth: 2}},
		Partitions: []api.Partition{
			{Name: "a", Inputs: 1, Outputs: 1, Regions: []api.Region{{Pages: 1, Frame: 0, Rights: 7}}, Ports: []api.Port{{Channel: 0, Source: true}, {Channel: 1, Source: true}}},
			{Name: "b", Regions: []api.Region{{Pages: 1, Frame: 1, Rights: 5}}, Ports: []api.Port{{Channel: 0}, {Channel: 1}}},
			{Name: "c", Regions: []api.Region{{Pages: 1, Frame: 2, Rights: 7}}, Ports: []api.Port{{Channel: 0}}},
		},
	}
}

// knownFeeds are those of the chapter's examples.
func knownFeeds() []api.Feed {
	return []api.Feed{{Partition: 0, Epoch: 3, Words: []uint32{77}}}
}

// callsOf makes calls that must go well.
func callsOf(t *testing.T, c api.Config, feeds []api.Feed) *calls.Calls {
	t.Helper()
	s, e := calls.New(c, feeds)
	if s == nil || e != api.OK {
		t.Fatalf("New: %v, error %d", s, e)
	}
	return s
}

// booted makes the memory with which a configuration begins.
func booted(t *testing.T, c api.Config, programs ...[]uint32) *mem.Memory {
	t.Helper()
	m, e, _ := boot.Boot(c, programs)
	if m == nil || e != api.OK {
		t.Fatalf("Boot: %v, error %d", m, e)
	}
	return m
}

// begun makes the calls and the memory of the chapter's examples.
func begun(t *testing.T) (*calls.Calls, *mem.Memory) {
	t.Helper()
	return callsOf(t, known(), knownFeeds()), booted(t, known(), []uint32{0, 0, 0, 0, 7, 8})
}

// regs are the registers 1, 2 and 3.
type regs [3]uint32

// context makes one with these registers; all others, and PC, are marked.
func context(r regs) api.Context {
	x := api.Context{PC: 0xfedcba98}
	for i := range x.Regs {
		x.Regs[i] = 0xabcd0000 + uint32(i)
	}
	copy(x.Regs[1:], r[:])
	return x
}

// does asks what Do answers of a call that tells its device nothing: the registers, with all others as they were.
func does(t *testing.T, s *calls.Calls, m *mem.Memory, p, epoch, call int, in, out regs) {
	t.Helper()
	tells(t, s, m, p, epoch, call, in, out, 0, false)
}

// tells is the same of any call.
func tells(t *testing.T, s *calls.Calls, m *mem.Memory, p, epoch, call int, in, out regs, word uint32, told bool) {
	t.Helper()
	x, w, is, e := s.Do(m, p, epoch, call, context(in))
	if x != context(out) || w != word || is != told || e != api.OK {
		t.Errorf("Do(%d, %d, %d, %v): %v, %d, %v, error %d, want %v, %d, %v", p, epoch, call, in, x, w, is, e, out, word, told)
	}
}

// refuses asks that Do answers an error, with zero values beside it, and changes nothing.
func refuses(t *testing.T, s *calls.Calls, m *mem.Memory, p, epoch, call int, in regs, want api.Errno) {
	t.Helper()
	before := m.Words()
	x, w, is, e := s.Do(m, p, epoch, call, context(in))
	if x != (api.Context{}) || w != 0 || is || e != want {
		t.Errorf("Do(%d, %d, %d, %v): %v, %d, %v, error %d, want nothing and error %d", p, epoch, call, in, x, w, is, e, want)
	}
	has(t, m, before)
}

// locks asks which locks a call needs.
func locks(t *testing.T, s *calls.Calls, p, call int, in regs, e api.Errno, want ...int) {
	t.Helper()
	if l, f := s.Locks(p, call, context(in)); !slices.Equal(l, want) || f != e {
		t.Errorf("Locks(%d, %d, %v): %v, error %d, want %v, error %d", p, call, in, l, f, want, e)
	}
}

// turns asks what Turn answers.
func turns(t *testing.T, s *calls.Calls, m *mem.Memory, e api.Errno) {
	t.Helper()
	if f := s.Turn(m); f != e {
		t.Errorf("Turn: error %d, want %d", f, e)
	}
}

// begins asks what Begin answers.
func begins(t *testing.T, s *calls.Calls, m *mem.Memory, e api.Errno, partitions ...int) {
	t.Helper()
	if f := s.Begin(m, partitions); f != e {
		t.Errorf("Begin(%d): error %d, want %d", partitions, f, e)
	}
}

// has asks that a memory has just these words.
func has(t *testing.T, m *mem.Memory, want []uint32) {
	t.Helper()
	for at, w := range m.Words() {
		if w != want[at] {
			t.Errorf("the word %d is %x, want %x", at, w, want[at])
		}
	}
}

// The section 'Errors'.
func TestNumbersOfErrors(t *testing.T) {
	if api.ErrCallsConfig != 250 || api.ErrCallsCall != 251 || api.ErrLong != 2 || api.ErrNil != 3 || api.ErrDeviceFeed != 220 {
		t.Error("an error has another number")
	}
	if api.ErrSampleForm != 191 || api.ErrQueueForm != 201 || api.ErrHealthForm != 231 {
		t.Error("an error of another chapter has another number")
	}
}

// P25.2, the examples.
func TestExamplesOfLocks(t *testing.T) {
	s, _ := begun(t)
	locks(t, s, 0, api.CallWho, regs{}, api.OK, 50)
	locks(t, s, 0, api.CallSend, regs{1}, api.OK, 50, 138)
	locks(t, s, 0, api.CallStatus, regs{9}, api.OK, 50)
	locks(t, s, 3, api.CallWho, regs{}, api.ErrCallsCall)
	locks(t, s, 0, 8, regs{}, api.ErrCallsCall)
}

// P25.3, the examples, with all words of the memory.
func TestExamples(t *testing.T) {
	s, m := begun(t)
	want := m.Words()
	does(t, s, m, 0, 3, api.CallInput, regs{0}, regs{0, 77, 0})
	does(t, s, m, 0, 3, api.CallInput, regs{1}, regs{api.ToldIndex})
	does(t, s, m, 0, 4, api.CallInput, regs{0}, regs{api.ToldIndex})
	has(t, m, want)
	does(t, s, m, 0, 0, api.CallSend, regs{0, 4, 2}, regs{})
	copy(want[124:], []uint32{1, 2, 7, 8})
	has(t, m, want)
	does(t, s, m, 0, 0, api.CallSend, regs{0, 4, 3}, regs{api.ToldLong})
	does(t, s, m, 0, 0, api.CallSend, regs{0, 15, 2}, regs{api.ToldFault})
	does(t, s, m, 0, 0, api.CallSend, regs{0, 16, 1}, regs{api.ToldFault})
	does(t, s, m, 0, 0, api.CallSend, regs{1, 4, 2}, regs{api.ToldLong})
	does(t, s, m, 0, 0, api.CallSend, regs{7, 4, 1}, regs{api.ToldPort})
	has(t, m, want)

	turns(t, s, m, api.OK)
	copy(want[124:], []uint32{0, 0, 0, 0, 1, 1, 2, 7, 8, 1, 1, 2, 7, 8})
	has(t, m, want)
	does(t, s, m, 2, 1, api.CallReceive, regs{0, 9, 5}, regs{0, 2, 1})
	want[41], want[42] = 7, 8
	has(t, m, want)
	does(t, s, m, 1, 1, api.CallReceive, regs{0, 0, 0}, regs{api.ToldFault})
	does(t, s, m, 1, 1, api.CallReceive, regs{1, 0, 0}, regs{api.ToldEmpty})
	does(t, s, m, 0, 1, api.CallReceive, regs{0, 0, 0}, regs{api.ToldWay})
	has(t, m, want)

	tells(t, s, m, 0, 2, api.CallOutput, regs{88}, regs{}, 88, true)
	want[73] = 1
	has(t, m, want)
	does(t, s, m, 0, 2, api.CallOutput, regs{88}, regs{api.ToldFull})
	does(t, s, m, 1, 5, api.CallWho, regs{}, regs{0, 1, 5})
	has(t, m, want)
	does(t, s, m, 0, 2, api.CallYield, regs{}, regs{})
	want[69] = api.StateYielded
	has(t, m, want)

	refuses(t, s, m, 0, -1, api.CallWho, regs{}, api.ErrCallsCall)
	other, _ := mem.New(17)
	refuses(t, s, other, 0, 0, api.CallWho, regs{}, api.ErrCallsConfig)
}

// P25.2: of each call of each partition: the partition's lock, and behind it, of the three calls of a port that is there, its channel's.
func TestLocks(t *testing.T) {
	s, _ := begun(t)
	channels := [][]int{{122, 138}, {122, 138}, {122}}
	for p, own := range []int{50, 74, 98} {
		for call := range api.CallEnd {
			for _, port := range []uint32{0, 1, 2, 3, 7, 8, 9, 255, 256, 1 << 16, 1 << 31, 1<<32 - 1, 1<<32 - 2} {
				want := []int{own}
				of := call == api.CallSend || call == api.CallReceive || call == api.CallStatus
				if of && port < uint32(len(channels[p])) {
					want = append(want, channels[p][port])
				}
				locks(t, s, p, call, regs{port, 1, 1}, api.OK, want...)
			}
		}
	}
}

// P25.3: what is told beside is 0 where nothing is said, whatever stood in the registers; the others stay.
func TestRegisters(t *testing.T) {
	s, m := begun(t)
	any := regs{0, 0xdead, 0xbeef}
	does(t, s, m, 1, 9, api.CallYield, regs{0xcafe, 0xdead, 0xbeef}, regs{})
	does(t, s, m, 2, 9, api.CallStop, regs{0xcafe, 0xdead, 0xbeef}, regs{})
	does(t, s, m, 0, 3, api.CallInput, any, regs{0, 77, 0})
	does(t, s, m, 2, 3, api.CallInput, any, regs{api.ToldIndex})
	does(t, s, m, 0, 9, api.CallStatus, any, regs{})
	does(t, s, m, 0, 9, api.CallStatus, regs{2, 5, 5}, regs{api.ToldPort})
	does(t, s, m, 2, 1<<30-1, api.CallWho, regs{9, 9, 9}, regs{0, 2, 1<<30 - 1})
	does(t, s, m, 0, 0, api.CallWho, regs{9, 9, 9}, regs{})
	tells(t, s, m, 0, 9, api.CallOutput, regs{0, 5, 5}, regs{}, 0, true)
	does(t, s, m, 0, 9, api.CallOutput, regs{5, 5, 5}, regs{api.ToldFull})
	does(t, s, m, 1, 9, api.CallOutput, regs{5, 5, 5}, regs{api.ToldFull})
	for _, port := range []uint32{2, 3, 7, 8, 1 << 31, 1<<32 - 1, 1<<32 - 2} {
		does(t, s, m, 0, 0, api.CallSend, regs{port, 4, 1}, regs{api.ToldPort})
		does(t, s, m, 0, 0, api.CallReceive, regs{port, 4, 1}, regs{api.ToldPort})
		does(t, s, m, 0, 0, api.CallStatus, regs{port, 4, 1}, regs{api.ToldPort})
	}
}

// P25.3, CallYield and CallStop: the state's first word, whatever it was, and no other.
func TestStates(t *testing.T) {
	c := known()
	c.Partitions[1].Action, c.Partitions[1].Restarts = api.ActionCold, 3
	s, m := callsOf(t, c, nil), booted(t, c)
	w, _ := health.New(c)
	for state := range uint32(4) {
		for call, becomes := range map[int]int{api.CallYield: api.StateYielded, api.CallStop: api.StateHalted} {
			m.Lay(93, []uint32{state, 2, 3, 4, 0})
			does(t, s, m, 1, 0, call, regs{1, 2, 3}, regs{})
			want := api.Status{State: becomes, Restarts: 2, Trap: 3, PC: 4}
			if got, e := w.Status(m, 1); got != want || e != api.OK {
				t.Errorf("the call %d in state %d: %v, error %d, want %v", call, state, got, e, want)
			}
		}
	}
}

// P25.3, CallSend: what is told comes in the order of the row.
func TestSendInOrder(t *testing.T) {
	s, m := begun(t)
	want := m.Words()
	for _, at := range []uint32{4, 15, 16, 4095, 4096, 1 << 31, 1<<32 - 1} {
		for _, many := range []uint32{0, 1, 2, 3, 16, 17, 1 << 31, 1<<32 - 1} {
			does(t, s, m, 0, 0, api.CallSend, regs{2, at, many}, regs{api.ToldPort})
			does(t, s, m, 1, 0, api.CallSend, regs{0, at, many}, regs{api.ToldWay})
			does(t, s, m, 1, 0, api.CallSend, regs{1, at, many}, regs{api.ToldWay})
			does(t, s, m, 1, 0, api.CallSend, regs{2, at, many}, regs{api.ToldPort})
			if many == 0 || many > 2 {
				does(t, s, m, 0, 0, api.CallSend, regs{0, at, many}, regs{api.ToldLong})
			}
			if many == 0 || many > 1 {
				does(t, s, m, 0, 0, api.CallSend, regs{1, at, many}, regs{api.ToldLong})
			}
		}
		if at > 15 {
			does(t, s, m, 0, 0, api.CallSend, regs{0, at, 1}, regs{api.ToldFault})
		}
		if at > 14 {
			does(t, s, m, 0, 0, api.CallSend, regs{0, at, 2}, regs{api.ToldFault})
		}
	}
	has(t, m, want)
	// A full stage comes behind a word that may not be read.
	does(t, s, m, 0, 0, api.CallSend, regs{1, 4, 1}, regs{})
	does(t, s, m, 0, 0, api.CallSend, regs{1, 5, 1}, regs{})
	does(t, s, m, 0, 0, api.CallSend, regs{1, 16, 1}, regs{api.ToldFault})
	does(t, s, m, 0, 0, api.CallSend, regs{1, 4, 1}, regs{api.ToldFull})
	copy(want[140:], []uint32{2, 1, 7, 1, 8})
	has(t, m, want)
}

// P25.3, CallReceive: of a queue the first message goes with ToldOK alone; what is left is told beside.
func TestReceiveQueue(t *testing.T) {
	c := known()
	c.Partitions[1].Regions[0].Rights = 7
	s, m := callsOf(t, c, nil), booted(t, c, []uint32{5, 6})
	does(t, s, m, 0, 0, api.CallSend, regs{1, 0, 1}, regs{})
	does(t, s, m, 0, 0, api.CallSend, regs{1, 1, 1}, regs{})
	does(t, s, m, 0, 0, api.CallStatus, regs{1}, regs{0, 2, 0})
	does(t, s, m, 1, 0, api.CallReceive, regs{1, 3, 0}, regs{api.ToldEmpty})
	turns(t, s, m, api.OK)
	want := m.Words()
	for range 2 {
		does(t, s, m, 1, 1, api.CallStatus, regs{1}, regs{0, 2, 0})
		does(t, s, m, 1, 1, api.CallReceive, regs{1, 16, 0}, regs{api.ToldFault})
		does(t, s, m, 1, 1, api.CallReceive, regs{1, 1<<32 - 1, 0}, regs{api.ToldFault})
		does(t, s, m, 1, 1, api.CallReceive, regs{2, 3, 0}, regs{api.ToldPort})
	}
	has(t, m, want)
	does(t, s, m, 1, 1, api.CallReceive, regs{1, 3, 0}, regs{0, 1, 1})
	does(t, s, m, 1, 1, api.CallReceive, regs{1, 15, 9}, regs{0, 1, 0})
	does(t, s, m, 1, 1, api.CallReceive, regs{1, 4, 9}, regs{api.ToldEmpty})
	want[16+3], want[16+15] = 5, 6
	clear(want[145:152])
	has(t, m, want)
}

// P25.3, CallStatus: all that is told of both kinds and both ends.
func TestStatus(t *testing.T) {
	s, m := begun(t)
	ask := func(p int, port uint32, two, three uint32) {
		t.Helper()
		does(t, s, m, p, 0, api.CallStatus, regs{port, 9, 9}, regs{0, two, three})
	}
	ask(0, 0, 0, 0)
	ask(1, 0, 0, 0)
	for range 2 {
		does(t, s, m, 0, 0, api.CallSend, regs{0, 4, 1}, regs{})
		does(t, s, m, 0, 0, api.CallSend, regs{1, 4, 1}, regs{})
	}
	ask(0, 0, 1, 0)
	ask(0, 1, 2, 0)
	turns(t, s, m, api.OK)
	ask(1, 0, 1, 1)
	ask(2, 0, 1, 1)
	ask(1, 1, 2, 0)
	does(t, s, m, 0, 0, api.CallSend, regs{1, 4, 1}, regs{})
	turns(t, s, m, api.OK)
	ask(0, 1, 0, 0)
	ask(1, 0, 1, 0)
	ask(1, 1, 2, 1)
}

// P25.5: Begin lets partitions tell their devices words again; of others nothing changes.
func TestBegin(t *testing.T) {
	c := known()
	for p := range c.Partitions {
		c.Partitions[p].Outputs = p + 1
	}
	s, m := callsOf(t, c, nil), booted(t, c)
	for p := range 3 {
		for n := range uint32(p) + 1 {
			tells(t, s, m, p, 0, api.CallOutput, regs{n}, regs{}, n, true)
		}
		does(t, s, m, p, 0, api.CallOutput, regs{5}, regs{api.ToldFull})
	}
	want := m.Words()
	begins(t, s, m, api.OK)
	has(t, m, want)
	begins(t, s, m, api.ErrCallsCall, 0, 2, 3)
	begins(t, s, m, api.ErrCallsCall, -1, 0)
	has(t, m, want)
	begins(t, s, m, api.OK, 2, 0, 2)
	want[73], want[121] = 0, 0
	has(t, m, want)
	does(t, s, m, 1, 0, api.CallOutput, regs{5}, regs{api.ToldFull})
	tells(t, s, m, 2, 0, api.CallOutput, regs{5}, regs{}, 5, true)
}
