package calls_test

import (
	"math"
	"math/rand/v2"
	"testing"

	"bulkhead/api"
	"bulkhead/calls"
	"bulkhead/mem"
)

// wrongNumbers are no partitions, no calls and no epochs.
var wrongNumbers = []int{-1, -2, -16, math.MinInt32, math.MinInt, math.MaxInt, 1 << 40, api.MaxEpoch, api.MaxEpoch + 1}

// makesNone asks that New refuses.
func makesNone(t *testing.T, what string, c api.Config, feeds []api.Feed, want api.Errno) {
	t.Helper()
	if s, e := calls.New(c, feeds); s != nil || e != want {
		t.Errorf("%s: New: %v, error %d, want nothing and error %d", what, s, e, want)
	}
}

// manyFeeds makes so many feeds that may be.
func manyFeeds(many int) []api.Feed {
	feeds := make([]api.Feed, many)
	for i := range feeds {
		feeds[i] = api.Feed{Epoch: i, Words: []uint32{uint32(i) + 5}}
	}
	return feeds
}

// P25.1: the errors, and their order.
func TestNew(t *testing.T) {
	short := known()
	short.Room = 12
	wrong := []api.Feed{{Partition: 1, Words: []uint32{1}}}
	makesNone(t, "room", short, nil, api.ErrCallsConfig)
	makesNone(t, "nothing", api.Config{}, nil, api.ErrCallsConfig)
	makesNone(t, "a wrong feed", known(), wrong, api.ErrDeviceFeed)
	makesNone(t, "both", short, wrong, api.ErrCallsConfig)
	makesNone(t, "too many, and all else", short, make([]api.Feed, 4097), api.ErrLong)
	makesNone(t, "too many", known(), manyFeeds(4097), api.ErrLong)
	for _, f := range []api.Feed{{Partition: 3}, {Partition: -1}, {Epoch: -1}, {Epoch: api.MaxEpoch}, {Words: []uint32{1, 2}}} {
		makesNone(t, "no such feed", known(), []api.Feed{f}, api.ErrDeviceFeed)
	}
	makesNone(t, "one twice", known(), []api.Feed{{Epoch: 3}, {Epoch: 3}}, api.ErrDeviceFeed)
	s, m := callsOf(t, known(), manyFeeds(4096)), booted(t, known())
	does(t, s, m, 0, 4095, api.CallInput, regs{0}, regs{0, 4100, 0})
	does(t, s, m, 0, 4096, api.CallInput, regs{0}, regs{api.ToldIndex})
	callsOf(t, known(), []api.Feed{})
}

// P25.2, P25.3, P25.5, R2: nil ahead of all else.
func TestNil(t *testing.T) {
	s, m := begun(t)
	var none *calls.Calls
	other, _ := mem.New(17)
	locks(t, none, 0, api.CallWho, regs{}, api.ErrNil)
	locks(t, none, 9, 9, regs{}, api.ErrNil)
	for _, x := range []struct {
		s *calls.Calls
		m *mem.Memory
	}{{none, m}, {s, nil}, {none, nil}, {none, other}} {
		for _, p := range []int{0, 3, -1} {
			for _, call := range []int{0, 6, 8, -1} {
				refuses(t, x.s, x.m, p, 0, call, regs{}, api.ErrNil)
				refuses(t, x.s, x.m, p, -1, call, regs{}, api.ErrNil)
			}
			begins(t, x.s, x.m, api.ErrNil, p)
		}
		begins(t, x.s, x.m, api.ErrNil)
		turns(t, x.s, x.m, api.ErrNil)
	}
}

// P25.3, P25.5: a memory of another number of frames ahead of what is no partition, no call and no epoch.
func TestOtherFrames(t *testing.T) {
	s, _ := begun(t)
	for _, frames := range []int{1, 15, 17, 32, 1024} {
		m, _ := mem.New(frames)
		m.Fill(0, frames*api.FrameWords, 9)
		want := m.Words()
		for call := -1; call <= api.CallEnd; call++ {
			for _, p := range []int{-1, 0, 2, 3} {
				refuses(t, s, m, p, 0, call, regs{}, api.ErrCallsConfig)
				refuses(t, s, m, p, -1, call, regs{}, api.ErrCallsConfig)
			}
		}
		begins(t, s, m, api.ErrCallsConfig)
		begins(t, s, m, api.ErrCallsConfig, 0)
		begins(t, s, m, api.ErrCallsConfig, 3)
		turns(t, s, m, api.ErrCallsConfig)
		has(t, m, want)
	}
}

// P25.2, P25.3, P25.5: what is no partition, no call, no epoch.
func TestNoSuch(t *testing.T) {
	s, m := begun(t)
	want := m.Words()
	for _, n := range wrongNumbers {
		locks(t, s, n, api.CallWho, regs{}, api.ErrCallsCall)
		locks(t, s, 0, n, regs{}, api.ErrCallsCall)
		begins(t, s, m, api.ErrCallsCall, n)
		begins(t, s, m, api.ErrCallsCall, 0, 1, n, 2)
		refuses(t, s, m, 0, 0, n, regs{}, api.ErrCallsCall)
		for call := range api.CallEnd {
			refuses(t, s, m, n, 0, call, regs{}, api.ErrCallsCall)
			refuses(t, s, m, 0, n, call, regs{}, api.ErrCallsCall)
		}
	}
	for call := range api.CallEnd {
		refuses(t, s, m, 3, 0, call, regs{}, api.ErrCallsCall)
		locks(t, s, 3, call, regs{}, api.ErrCallsCall)
	}
	refuses(t, s, m, 2, 0, api.CallEnd, regs{}, api.ErrCallsCall)
	has(t, m, want)
	does(t, s, m, 2, api.MaxEpoch-1, api.CallWho, regs{}, regs{0, 2, api.MaxEpoch - 1})
}

// P25.3: the kernel's words that are not of their form are met where the call of the row looks at them, and by no other call.
func TestForms(t *testing.T) {
	const sample, queue, state = api.ErrSampleForm, api.ErrQueueForm, api.ErrHealthForm
	for at, want := range map[int]map[[3]int]api.Errno{ // partition, call, port
		69:  {{0, api.CallYield}: state, {0, api.CallStop}: state},
		71:  {{0, api.CallYield}: state, {0, api.CallStop}: state},
		97:  {{1, api.CallYield}: state, {1, api.CallStop}: state},
		121: {{2, api.CallYield}: state, {2, api.CallStop}: state},
		124: {{0, api.CallSend, 0}: sample, {0, api.CallStatus, 0}: sample},
		127: {{0, api.CallSend, 0}: sample, {0, api.CallStatus, 0}: sample},
		128: {{1, api.CallReceive, 0}: sample, {1, api.CallStatus, 0}: sample},
		137: {{2, api.CallReceive, 0}: sample, {2, api.CallStatus, 0}: sample},
		140: {{0, api.CallSend, 1}: queue, {0, api.CallStatus, 1}: queue},
		146: {{1, api.CallReceive, 1}: queue, {1, api.CallStatus, 1}: queue},
		50:  {}, 51: {}, 52: {}, 74: {}, 122: {}, 138: {}, 48: {}, 49: {},
	} {
		for p := range 3 {
			for call := range api.CallEnd {
				for port := range 2 {
					s, m := begun(t)
					m.Write(at, 9)
					e := want[[3]int{p, call, port}]
					if call == api.CallYield || call == api.CallStop {
						e = want[[3]int{p, call, 0}]
					}
					if e != api.OK {
						refuses(t, s, m, p, 0, call, regs{uint32(port), 4, 1}, e)
					} else if _, _, _, e := s.Do(m, p, 0, call, context(regs{uint32(port), 4, 1})); e != api.OK {
						t.Errorf("the word %d, Do(%d, %d, port %d): error %d", at, p, call, port, e)
					}
				}
			}
		}
	}
}

// P25.3: what the row tells ahead of the words' errors comes first: of CallSend all but ToldFull, of CallReceive the port and the way, but not ToldFault.
func TestToldAheadOfForms(t *testing.T) {
	s, m := begun(t)
	tables := m.Words()
	m.Fill(124, 28, 9)
	want := m.Words()
	does(t, s, m, 0, 0, api.CallSend, regs{2, 4, 1}, regs{api.ToldPort})
	does(t, s, m, 1, 0, api.CallSend, regs{0, 4, 1}, regs{api.ToldWay})
	for port := range uint32(2) {
		does(t, s, m, 0, 0, api.CallSend, regs{port, 4, 0}, regs{api.ToldLong})
		does(t, s, m, 0, 0, api.CallSend, regs{port, 4, 3}, regs{api.ToldLong})
		does(t, s, m, 0, 0, api.CallSend, regs{port, 16, 1}, regs{api.ToldFault})
		does(t, s, m, 0, 0, api.CallReceive, regs{port, 16, 1}, regs{api.ToldWay})
	}
	does(t, s, m, 0, 0, api.CallReceive, regs{2, 16, 1}, regs{api.ToldPort})
	does(t, s, m, 0, 0, api.CallStatus, regs{2, 16, 1}, regs{api.ToldPort})
	refuses(t, s, m, 0, 0, api.CallSend, regs{0, 4, 1}, api.ErrSampleForm)
	refuses(t, s, m, 0, 0, api.CallSend, regs{1, 4, 1}, api.ErrQueueForm)
	refuses(t, s, m, 1, 0, api.CallReceive, regs{0, 4, 1}, api.ErrSampleForm)
	refuses(t, s, m, 1, 0, api.CallReceive, regs{1, 16, 1}, api.ErrQueueForm)
	turns(t, s, m, api.ErrSampleForm)
	has(t, m, want)
	m.Lay(124, tables[124:138])
	turns(t, s, m, api.ErrQueueForm)
	copy(want[124:138], tables[124:138])
	has(t, m, want)
}

// P25.3: CallOutput asks the state's last word alone: a state that is not right is not met there.
func TestOutputAsksItsWord(t *testing.T) {
	s, m := begun(t)
	m.Lay(69, []uint32{9, 99, 77, 5, 0})
	tells(t, s, m, 0, 0, api.CallOutput, regs{6}, regs{}, 6, true)
	for _, many := range []uint32{1, 2, 16, 17, 1 << 31, 1<<32 - 1} {
		m.Write(73, many)
		want := m.Words()
		does(t, s, m, 0, 0, api.CallOutput, regs{6}, regs{api.ToldFull})
		has(t, m, want)
	}
}

// R1: whatever the words of the memory are, the tables among them, every call ends.
func TestAnyMemory(t *testing.T) {
	s, _ := begun(t)
	for seed := range uint64(300) {
		r := rand.New(rand.NewPCG(seed, 251))
		words := make([]uint32, 256)
		for i := range words {
			words[i] = []uint32{0, 1, 2, r.Uint32(), 1<<31 | r.Uint32()&0x1fff, 1<<31 | r.Uint32N(16)<<3 | 7}[r.IntN(6)]
		}
		m, e := mem.Of(words)
		if e != api.OK {
			t.Fatalf("mem.Of: error %d", e)
		}
		for range 100 {
			s.Do(m, r.IntN(3), r.IntN(9), r.IntN(api.CallEnd), context(regs{r.Uint32N(3), r.Uint32N(260), r.Uint32N(4)}))
		}
		s.Turn(m)
		s.Begin(m, []int{0, 1, 2})
	}
}

// R5: what is handed in is neither kept nor changed; the locks that are told are new each time.
func TestNothingIsShared(t *testing.T) {
	c, feeds := known(), knownFeeds()
	s, m := callsOf(t, c, feeds), booted(t, known(), []uint32{0, 0, 0, 0, 7, 8})
	feeds[0].Words[0], feeds[0].Epoch = 5, 6
	c.Channels[0].Words, c.Partitions[0].Outputs = 1, 16
	c.Partitions[0].Ports[0], c.Partitions[0].Regions[0].Rights = api.Port{Channel: 1}, 0
	does(t, s, m, 0, 3, api.CallInput, regs{0}, regs{0, 77, 0})
	does(t, s, m, 0, 0, api.CallSend, regs{0, 4, 2}, regs{})
	tells(t, s, m, 0, 0, api.CallOutput, regs{6}, regs{}, 6, true)
	does(t, s, m, 0, 0, api.CallOutput, regs{6}, regs{api.ToldFull})
	l, _ := s.Locks(0, api.CallSend, context(regs{1}))
	for i := range l[:cap(l)] {
		l[:cap(l)][i] = 999
	}
	locks(t, s, 0, api.CallSend, regs{1}, api.OK, 50, 138)
	list := []int{0, 1, 2, 7}[:3]
	begins(t, s, m, api.OK, list...)
	if list[:4][3] != 7 || list[0] != 0 || list[2] != 2 {
		t.Errorf("the list is %d now", list[:4])
	}
}
