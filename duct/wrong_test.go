package duct_test

import (
	"testing"

	"bulkhead/api"
	"bulkhead/duct"
	"bulkhead/mem"
)

// refused asks that all calls answer an error, whatever port is asked, and change nothing.
func refused(t *testing.T, d *duct.Ducts, m *mem.Memory, e api.Errno) {
	t.Helper()
	before := m.Words()
	for p := -1; p <= 3; p++ {
		for port := -1; port <= 2; port++ {
			for n := range 4 {
				sends(t, d, m, p, port, make([]uint32, n), 0, e)
			}
			looks(t, d, m, p, port, 0, nil, 0, e)
			took(t, d, m, p, port, e)
			stands(t, d, m, p, port, 0, 0, 0, e)
		}
	}
	turns(t, d, m, e)
	if m != nil {
		stays(t, m, before)
	}
}

// The errors' order: a nil object ahead of all, then another number of frames, ahead of what the call says and of words that are not of their form.
func TestWrongObjects(t *testing.T) {
	d, m := begun(t)
	var none *duct.Ducts
	refused(t, none, m, api.ErrNil)
	refused(t, d, nil, api.ErrNil)
	refused(t, none, nil, api.ErrNil)
	for _, frames := range []int{1, 15, 17, 32, 1024} {
		other := memory(t, frames)
		refused(t, d, other, api.ErrDuctConfig)
		other.Fill(0, frames*api.FrameWords, 9)
		refused(t, d, other, api.ErrDuctConfig)
		refused(t, none, other, api.ErrNil)
	}
	locks(t, none, 0, 0, 0, 0, false)
	rooms(t, none, 0, 0, 0, 0)
	rooms(t, none, 9, 9, 0, 0)
}

// absent asks that a port is not there.
func absent(t *testing.T, d *duct.Ducts, m *mem.Memory, p, port int) {
	t.Helper()
	locks(t, d, p, port, 0, 0, false)
	rooms(t, d, p, port, 0, api.ToldPort)
	for n := range 4 {
		sends(t, d, m, p, port, make([]uint32, n), api.ToldPort, api.OK)
	}
	looks(t, d, m, p, port, api.ToldPort, nil, 0, api.OK)
	took(t, d, m, p, port, api.OK)
	stands(t, d, m, p, port, api.ToldPort, 0, 0, api.OK)
}

// A port that is not there: of no partition, or of no number; nothing changes, and no word is looked at.
func TestAbsentPorts(t *testing.T) {
	d, m := begun(t)
	for _, fill := range []uint32{0, 9} {
		m.Fill(0, 256, fill)
		before := m.Words()
		for _, n := range append(wrongNumbers, 3) {
			for known := range 3 {
				absent(t, d, m, n, known)
				absent(t, d, m, known, n)
			}
			for _, o := range wrongNumbers {
				absent(t, d, m, n, o)
			}
		}
		absent(t, d, m, 0, 2)
		absent(t, d, m, 1, 2)
		absent(t, d, m, 2, 1)
		stays(t, m, before)
	}
}

// What a call says ahead of the words' errors: the way, then a message's length.
func TestWayAheadOfForm(t *testing.T) {
	d, m := begun(t)
	m.Fill(0, 256, 9)
	before := m.Words()
	for port := range 2 {
		for n := range 4 {
			sends(t, d, m, 1, port, make([]uint32, n), api.ToldWay, api.OK)
		}
		sends(t, d, m, 0, port, nil, api.ToldLong, api.OK)
		sends(t, d, m, 0, port, of(1, 2, 3), api.ToldLong, api.OK)
		looks(t, d, m, 0, port, api.ToldWay, nil, 0, api.OK)
		took(t, d, m, 0, port, api.OK)
	}
	sends(t, d, m, 0, 0, of(1), 0, api.ErrSampleForm)
	sends(t, d, m, 0, 1, of(1), 0, api.ErrQueueForm)
	looks(t, d, m, 1, 0, 0, nil, 0, api.ErrSampleForm)
	looks(t, d, m, 1, 1, 0, nil, 0, api.ErrQueueForm)
	took(t, d, m, 1, 0, api.OK)
	took(t, d, m, 1, 1, api.ErrQueueForm)
	stands(t, d, m, 0, 0, 0, 0, 0, api.ErrSampleForm)
	stands(t, d, m, 0, 1, 0, 0, 0, api.ErrQueueForm)
	stands(t, d, m, 1, 0, 0, 0, 0, api.ErrSampleForm)
	stands(t, d, m, 1, 1, 0, 0, 0, api.ErrQueueForm)
	turns(t, d, m, api.ErrSampleForm)
	stays(t, m, before)
}

// spoilt is a word of the examples' memory that is none there, and the errors of the calls that look at it.
type spoilt struct {
	at                    int
	stage0, port0, other0 api.Errno
	stage1, port1         api.Errno
	turn                  api.Errno
}

// P21.4 to P21.8: each call looks at the words of the stage, or of the port, that is asked, and at no others; Turn at all of them.
func TestForms(t *testing.T) {
	const sample, queue = api.ErrSampleForm, api.ErrQueueForm
	for _, x := range []spoilt{
		{at: 124, stage0: sample, turn: sample},
		{at: 127, stage0: sample, turn: sample},
		{at: 128, port0: sample, turn: sample},
		{at: 132, port0: sample, turn: sample},
		{at: 133, other0: sample, turn: sample},
		{at: 137, other0: sample, turn: sample},
		{at: 140, stage1: queue, turn: queue},
		{at: 144, stage1: queue, turn: queue},
		{at: 145, port1: queue, turn: queue},
		{at: 146, port1: queue, turn: queue},
		{at: 151, port1: queue, turn: queue},
		// None of the channels' words, or a number that may be any: nothing is wrong.
		{at: 123}, {at: 138}, {at: 139}, {at: 147}, {at: 152}, {at: 0}, {at: 121}, {at: 255},
	} {
		d, m := begun(t)
		m.Write(x.at, 9)
		before := m.Words()
		lost := uint32(0)
		if x.at == 147 {
			lost = 9
		}
		stands(t, d, m, 0, 0, 0, 0, 0, x.stage0)
		stands(t, d, m, 0, 1, 0, 0, 0, x.stage1)
		stands(t, d, m, 1, 0, 0, 0, 0, x.port0)
		stands(t, d, m, 2, 0, 0, 0, 0, x.other0)
		stands(t, d, m, 1, 1, 0, 0, lost, x.port1)
		looks(t, d, m, 1, 0, empty(x.port0), nil, 0, x.port0)
		looks(t, d, m, 2, 0, empty(x.other0), nil, 0, x.other0)
		looks(t, d, m, 1, 1, empty(x.port1), nil, 0, x.port1)
		took(t, d, m, 1, 0, api.OK)
		took(t, d, m, 2, 0, api.OK)
		took(t, d, m, 1, 1, x.port1)
		stays(t, m, before)
		sends(t, d, m, 0, 0, of(5), 0, x.stage0)
		sends(t, d, m, 0, 1, of(6), 0, x.stage1)
		before = m.Words()
		turns(t, d, m, x.turn)
		if x.turn != api.OK {
			stays(t, m, before)
		}
		if t.Failed() {
			t.Fatalf("the word %d", x.at)
		}
	}
}

// empty tells what Look tells of a port that holds none, beside an error nothing.
func empty(e api.Errno) int {
	if e != api.OK {
		return 0
	}
	return api.ToldEmpty
}

// P21.8: of several channels that are refused the least one's error is told, and of none anything has changed.
func TestAllOrNone(t *testing.T) {
	kinds := func(first, second int) (*duct.Ducts, *mem.Memory, []int) {
		c := known()
		c.Partitions[2].Ports = nil
		places := []int{}
		for i, kind := range []int{first, second} {
			c.Channels[i] = api.Channel{Kind: kind, Words: 1, Depth: kind - 1}
			places = append(places, 122+2)
		}
		// A stage and a port of one word, sampling: 3 and 4 words; queuing, of one place: 3 and 5.
		places[1] += 2 + 3 + 4
		if first == api.KindQueuing {
			places[1]++
		}
		return ductsOf(t, c), memory(t, 16), places
	}
	errors := []api.Errno{0, api.ErrSampleForm, api.ErrQueueForm}
	for _, first := range []int{api.KindSampling, api.KindQueuing} {
		for _, second := range []int{api.KindSampling, api.KindQueuing} {
			for _, wrong := range [][]int{{0}, {1}, {0, 1}} {
				d, m, places := kinds(first, second)
				sends(t, d, m, 0, 0, of(5), api.ToldOK, api.OK)
				sends(t, d, m, 0, 1, of(6), api.ToldOK, api.OK)
				for _, i := range wrong {
					m.Write(places[i]+3, 7) // the first word of the port behind the stage
				}
				before := m.Words()
				turns(t, d, m, errors[[]int{first, second}[wrong[0]]])
				stays(t, m, before)
				for _, i := range wrong {
					m.Write(places[i]+3, 0)
				}
				turns(t, d, m, api.OK)
				looks(t, d, m, 1, 0, api.ToldOK, of(5), beside(first), api.OK)
				looks(t, d, m, 1, 1, api.ToldOK, of(6), beside(second), api.OK)
			}
		}
	}
}

// beside tells what Look tells beside the one message that has just come.
func beside(kind int) uint32 {
	if kind == api.KindSampling {
		return 1
	}
	return 0
}

// P21.8: the ports behind the first one are looked at, too, ahead of the first write.
func TestLastPortRefuses(t *testing.T) {
	d, m := begun(t)
	sends(t, d, m, 0, 0, of(7), api.ToldOK, api.OK)
	sends(t, d, m, 0, 1, of(8), api.ToldOK, api.OK)
	m.Write(151, 1) // a word in a place of channel 1's port without a message
	before := m.Words()
	turns(t, d, m, api.ErrQueueForm)
	stays(t, m, before)
	m.Write(135, 3) // a length without a message, in the second port of channel 0
	before = m.Words()
	turns(t, d, m, api.ErrSampleForm)
	stays(t, m, before)
}
