package conf_test

import (
	"bytes"
	"math"
	"math/rand/v2"
	"testing"

	"bulkhead/api"
	"bulkhead/bits"
	"bulkhead/conf"
)

// scan walks over bytes as the document's table says it, with a count of bytes alone: what is refused, where, and where each item that was right begins.
type scan struct {
	b      []byte
	at     int
	starts []int
	e      api.Errno
}

// take goes over an item of n bytes, and tells them as a number.
func (s *scan) take(n int) (v int) {
	if s.e != api.OK {
		return 0
	}
	s.starts = append(s.starts, s.at)
	if s.at+n > len(s.b) {
		s.e = api.ErrConfForm
		return 0
	}
	for i := n - 1; i >= 0; i-- {
		v = v<<8 | int(s.b[s.at+i])
	}
	s.at += n
	return v
}

// back refuses the item that was taken last.
func (s *scan) back() {
	if s.e == api.OK {
		s.at = s.starts[len(s.starts)-1]
		s.e = api.ErrConfForm
	}
}

// each goes over a list.
func (s *scan) each(element func()) {
	for n := s.take(1); n > 0 && s.e == api.OK; n-- {
		element()
	}
}

func (s *scan) numbers(n int) {
	for range n {
		s.take(4)
	}
}

func (s *scan) name() {
	n := s.take(4)
	if n > 255 || s.at+n > len(s.b) {
		s.back()
	} else {
		s.at += n
	}
}

func (s *scan) port() {
	s.take(4)
	if s.take(1) > 1 {
		s.back()
	}
}

func (s *scan) partition() {
	s.name()
	s.numbers(5)
	s.each(func() { s.numbers(4) })
	s.each(s.port)
}

// scanned walks over the whole.
func scanned(b []byte) *scan {
	s := &scan{b: b}
	if len(b) > 16384 {
		s.e = api.ErrLong
		return s
	}
	if s.take(4) != 0x31434b42 {
		s.back()
	}
	s.numbers(4)
	s.each(func() { s.each(func() { s.numbers(3) }) })
	s.each(s.partition)
	s.each(func() { s.numbers(3) })
	sum := s.take(4)
	switch {
	case s.e != api.OK:
	case s.at < len(b):
		s.e = api.ErrConfForm
	case sum != int(bits.Sum(b[:s.at-4])):
		s.at, s.e = s.at-4, api.ErrConfSum
	default:
		s.at = 0
	}
	return s
}

// places tells for each byte of a form where its item begins.
func places(b []byte) []int {
	list := make([]int, len(b))
	starts := scanned(b).starts
	for i, from := range starts {
		for at := from; at < len(b); at++ {
			list[at] = starts[i]
		}
	}
	return list
}

// someNumber: small ones, ones of any size, the ends.
func someNumber(r *rand.Rand) int {
	switch r.IntN(4) {
	case 0:
		return r.IntN(3)
	case 1:
		return r.IntN(1 << 10)
	case 2:
		return math.MaxUint32 - r.IntN(2)
	}
	return int(r.Uint32())
}

func some[T any](r *rand.Rand, most int, one func() T) (list []T) {
	for range r.IntN(most + 1) {
		list = append(list, one())
	}
	return list
}

// someConfig: any configuration whose form is not too long.
func someConfig(r *rand.Rand) api.Config {
	n := func() int { return someNumber(r) }
	return api.Config{
		Frames: n(), Major: n(), Kernel: n(), Room: n(),
		Cores: some(r, 5, func() []api.Window {
			return some(r, 5, func() api.Window { return api.Window{Partition: max(n()-1, -1), Usable: n(), Slack: n()} })
		}),
		Partitions: some(r, 4, func() api.Partition {
			name := some(r, 20, func() byte { return byte(r.UintN(256)) })
			return api.Partition{
				Name: string(name), Entry: n(), Action: n(), Restarts: n(), Inputs: n(), Outputs: n(),
				Regions: some(r, 3, func() api.Region { return api.Region{Page: n(), Pages: n(), Frame: n(), Rights: n()} }),
				Ports:   some(r, 3, func() api.Port { return api.Port{Channel: n(), Source: r.IntN(2) == 1} }),
			}
		}),
		Channels: some(r, 4, func() api.Channel { return api.Channel{Kind: n(), Words: n(), Depth: n()} }),
	}
}

// P11.3: any configuration, there and back.
func TestThereAndBack(t *testing.T) {
	r := rand.New(rand.NewPCG(11, 1))
	for range 3000 {
		c := someConfig(r)
		b := encoded(t, c)
		x, at, e := conf.Decode(b)
		if e != api.OK || at != 0 || !same(x, c) {
			t.Fatalf("%+v there and back: %+v, %d, %v", c, x, at, e)
		}
		if again := encoded(t, x); !bytes.Equal(again, b) {
			t.Fatalf("%+v: two forms, %v and %v", c, b, again)
		}
	}
}

// spoilt is a form with a few bytes changed, cut off or put in, and perhaps a right sum again.
func spoilt(r *rand.Rand, b []byte) []byte {
	b = bytes.Clone(b)
	for range r.IntN(3) {
		at := r.IntN(len(b))
		switch r.IntN(5) {
		case 0:
			b[at] = byte(r.UintN(256))
		case 1:
			b[at] ^= 1 << r.IntN(8)
		case 2:
			b[at] = byte(r.UintN(3))
		case 3:
			b = append(b[:at:at], b[min(len(b), at+1+r.IntN(5)):]...)
		case 4:
			b = append(b, byte(r.UintN(256)))
		}
		if len(b) < 5 {
			return b
		}
	}
	if r.IntN(2) == 0 {
		return resummed(b)
	}
	return b
}

// P11.2, P11.3 and P11.4: spoilt forms are refused at the place that a walk by the document's table tells; those that are not are the very form of what is told.
func TestSpoiltForms(t *testing.T) {
	r := rand.New(rand.NewPCG(11, 2))
	seen := [3]int{}
	for range 60000 {
		b := spoilt(r, encoded(t, someConfig(r)))
		want := scanned(b)
		c, at, e := conf.Decode(b)
		if at != want.at || e != want.e {
			t.Fatalf("Decode of %v: %d, %v, not %d, %v", b, at, e, want.at, want.e)
		}
		if e != api.OK {
			seen[e-api.ErrConfForm+1]++
			if !same(c, api.Config{}) {
				t.Fatalf("Decode of %v tells %+v beside %v", b, c, e)
			}
			continue
		}
		seen[0]++
		if back := encoded(t, c); !bytes.Equal(back, b) {
			t.Fatalf("%v is read, but the form is %v", b, back)
		}
	}
	for i, n := range seen {
		if n < 1000 {
			t.Errorf("the case %d came %d times alone", i, n)
		}
	}
}

// P11.2 and R1: bytes of any kind behind the mark.
func TestAnyBytes(t *testing.T) {
	r := rand.New(rand.NewPCG(11, 3))
	for range 20000 {
		b := make([]byte, r.IntN(400))
		for i := range b {
			if r.IntN(3) == 0 {
				b[i] = byte(r.UintN(256) >> r.IntN(8))
			}
		}
		if r.IntN(8) > 0 {
			copy(b, mark())
		}
		want := scanned(b)
		if _, at, e := conf.Decode(b); at != want.at || e != want.e {
			t.Fatalf("Decode of %v: %d, %v, not %d, %v", b, at, e, want.at, want.e)
		}
	}
	for _, fill := range []byte{1, 255} {
		b := append(mark(), bytes.Repeat([]byte{fill}, 16380)...)
		want := scanned(b)
		refuses(t, b, want.at, want.e)
	}
}
