package conf_test

import (
	"bytes"
	"testing"

	"bulkhead/api"
	"bulkhead/bits"
	"bulkhead/conf"
)

// resummed is a copy of a form with the sum made right again.
func resummed(b []byte) []byte {
	return form(b[:len(b)-4])
}

// with is a copy of bytes in which some stand otherwise from a place on.
func with(b []byte, at int, other ...byte) []byte {
	b = bytes.Clone(b)
	copy(b[at:], other)
	return b
}

// P11.2: the document's examples.
func TestDecodeOfExamples(t *testing.T) {
	refuses(t, nil, 0, api.ErrConfForm)
	refuses(t, []byte{}, 0, api.ErrConfForm)
	refuses(t, []byte{66, 75, 67}, 0, api.ErrConfForm)
	refuses(t, []byte{0, 0, 0, 0}, 0, api.ErrConfForm)
	refuses(t, mark(), 4, api.ErrConfForm)
	refuses(t, append(empty(), 0), 27, api.ErrConfForm)
	refuses(t, append(empty(), 7), 27, api.ErrConfForm)
	refuses(t, with(empty(), 26, ^empty()[26]), 23, api.ErrConfSum)
}

// P11.2: more than MaxBytes bytes are refused unread; MaxBytes are read.
func TestDecodeAtMaxBytes(t *testing.T) {
	refuses(t, zeros(16385), 0, api.ErrLong)
	refuses(t, append(empty(), zeros(16385-27)...), 0, api.ErrLong)
	refuses(t, zeros(1<<20), 0, api.ErrLong)
	refuses(t, zeros(16384), 0, api.ErrConfForm)
	refuses(t, append(empty(), zeros(16384-27)...), 27, api.ErrConfForm)
}

// P11.2: the mark is one item: whichever of its bytes is another.
func TestDecodeOfAnotherMark(t *testing.T) {
	for i := range 4 {
		b := empty()
		b[i]++
		refuses(t, resummed(b), 0, api.ErrConfForm)
		refuses(t, b, 0, api.ErrConfForm)
	}
	refuses(t, []byte("bkc1"), 0, api.ErrConfForm)
	refuses(t, []byte("1CKB"), 0, api.ErrConfForm)
}

// P11.2: a text is one item, its length and its bytes: the place is where the length begins.
func TestDecodeOfTexts(t *testing.T) {
	const name = 4 + 16 + 1 + 1 // of the only partition
	c := api.Config{Partitions: []api.Partition{{Name: "radio"}}}
	b := encoded(t, c)
	if b[name] != 5 || b[name+4] != 'r' {
		t.Fatalf("the name does not stand at %d: %v", name, b)
	}
	for _, n := range [][]byte{{0, 1, 0, 0}, {5, 1, 0, 0}, {5, 0, 1, 0}, {5, 0, 0, 1}, {255, 255, 255, 255}, {0, 0, 0, 128}} {
		refuses(t, resummed(with(b, name, n...)), name, api.ErrConfForm)
	}
	refuses(t, with(b, name, 255), name, api.ErrConfForm)
	for end := name; end < name+9; end++ {
		refuses(t, b[:end], name, api.ErrConfForm)
	}
	refuses(t, b[:name+9], name+9, api.ErrConfForm)

	// a length above 255 is refused though so many bytes be there
	long := bytes.Join([][]byte{mark(), zeros(17), {1, 0, 1, 0, 0}, zeros(256 + 20 + 3)}, nil)
	refuses(t, form(long), name, api.ErrConfForm)
}

// P11.2: Source is 0 or 1.
func TestDecodeOfSources(t *testing.T) {
	c := api.Config{Partitions: []api.Partition{{Ports: []api.Port{{Channel: 1, Source: true}, {Channel: 2}}}}}
	b := encoded(t, c)
	first := 4 + 16 + 1 + 1 + 4 + 20 + 1 + 1 + 4
	for i, at := range []int{first, first + 5} {
		for n := range 256 {
			x := resummed(with(b, at, byte(n)))
			if n > 1 {
				refuses(t, x, at, api.ErrConfForm)
				continue
			}
			got, place, e := conf.Decode(x)
			if e != api.OK || place != 0 || got.Partitions[0].Ports[i].Source != (n == 1) {
				t.Errorf("a Source of %d: %+v, %d, %v", n, got, place, e)
			}
		}
	}
}

// P11.2: bytes behind the sum weigh more than a wrong sum; the place is that of the first of them.
func TestBytesBehindTheSum(t *testing.T) {
	for _, b := range [][]byte{empty(), encoded(t, sample())} {
		wrong := with(b, len(b)-1, ^b[len(b)-1])
		for n := 1; n < 20; n++ {
			refuses(t, append(bytes.Clone(b), zeros(n)...), len(b), api.ErrConfForm)
			refuses(t, append(bytes.Clone(wrong), zeros(n)...), len(b), api.ErrConfForm)
		}
		refuses(t, append(bytes.Clone(b), b...), len(b), api.ErrConfForm)
	}
}

// P11.2: of several items that are not right the first one decides.
func TestTheFirstItemDecides(t *testing.T) {
	c := api.Config{Partitions: []api.Partition{{Name: "ab", Ports: []api.Port{{Source: true}}}, {Name: "cd"}}}
	b := encoded(t, c)
	name, source := 22, 22+6+20+1+1+4
	refuses(t, with(b, len(b)-1, ^b[len(b)-1]), len(b)-4, api.ErrConfSum)
	b = with(b, source+1+1, 1) // the second name's length is 258 then
	refuses(t, b, source+1, api.ErrConfForm)
	b = with(b, source, 2)
	refuses(t, b, source, api.ErrConfForm)
	b = with(b, name+1, 1)
	refuses(t, b, name, api.ErrConfForm)
	b = with(b, 0, 0)
	refuses(t, b, 0, api.ErrConfForm)
}

// P11.4 and P11.2: a form that is cut off is refused at the item in which it ends.
func TestFormsCutOff(t *testing.T) {
	for _, c := range []api.Config{{}, sample(), ofBytes(300)} {
		b := encoded(t, c)
		places := places(b)
		for end := range b {
			refuses(t, b[:end], places[end], api.ErrConfForm)
		}
	}
}

// P11.4: a form of which one byte is changed is refused, whichever, and whatever it is made.
func TestFormsWithOneByteChanged(t *testing.T) {
	for _, c := range []api.Config{{}, sample(), {Cores: make([][]api.Window, 30)}, {Channels: make([]api.Channel, 9)}} {
		b := encoded(t, c)
		for at := range b {
			for by := 1; by < 256; by++ {
				x, place, e := conf.Decode(with(b, at, b[at]^byte(by)))
				if e != api.ErrConfForm && e != api.ErrConfSum {
					t.Fatalf("byte %d of %d changed by %d: %v", at, len(b), by, e)
				}
				if place > len(b) || !same(x, api.Config{}) {
					t.Fatalf("byte %d changed by %d: %+v, %d", at, by, x, place)
				}
			}
		}
	}
}

// P11.3: bytes with a right sum whose items are not as Encode writes them are none: there is one form for each.
func TestOneFormForEach(t *testing.T) {
	b := encoded(t, sample())
	for at := range len(b) - 4 {
		for _, by := range []byte{1, 2, 4, 128, 255} {
			other := resummed(with(b, at, b[at]^by))
			c, _, e := conf.Decode(other)
			if e != api.OK {
				continue
			}
			if back, e := conf.Encode(c); e != api.OK || !bytes.Equal(back, other) {
				t.Fatalf("byte %d changed by %d: %v, and the form is another", at, by, e)
			}
		}
	}
	if bits.Sum(b[:len(b)-4]) != uint32(b[len(b)-4])|uint32(b[len(b)-3])<<8|uint32(b[len(b)-2])<<16|uint32(b[len(b)-1])<<24 {
		t.Error("the sum is not that of all bytes ahead of it")
	}
}
