package bits_test

import (
	"bytes"
	"math"
	"math/rand/v2"
	"reflect"
	"strings"
	"testing"

	"bulkhead/api"
	"bulkhead/bits"
)

// stands holds a reader against a place, how many bytes are left, and its fault.
func stands(t *testing.T, r *bits.Reader, at, left int, fault api.Errno) {
	t.Helper()
	if r.At() != at || r.Left() != left || r.Fault() != fault {
		t.Errorf("it stands at %d, %d left, %v; not at %d, %d left, %v", r.At(), r.Left(), r.Fault(), at, left, fault)
	}
}

// refuses asks each kind of item of a reader that has a fault: P1.7.
func refuses(t *testing.T, r *bits.Reader) {
	t.Helper()
	at, left, fault := r.At(), r.Left(), r.Fault()
	if r.U8() != 0 || r.U32() != 0 || r.U64() != 0 || r.Text(0) != "" || r.Text(math.MaxInt) != "" || r.Text(-1) != "" {
		t.Error("a reader with a fault tells something")
	}
	stands(t, r, at, left, fault)
	if r.End() != fault {
		t.Errorf("End is %v, not the fault %v", r.End(), fault)
	}
}

// P1.5
func TestWriter(t *testing.T) {
	w := bits.NewWriter()
	if w.Len() != 0 || len(w.Out()) != 0 {
		t.Errorf("a new writer holds %x", w.Out())
	}
	steps := []struct {
		write func()
		want  string
	}{
		{func() { w.U8(7) }, "\x07"},
		{func() { w.U32(258) }, "\x02\x01\x00\x00"},
		{func() { w.Text("ab") }, "\x02\x00\x00\x00ab"},
		{func() { w.U8(255) }, "\xff"},
		{func() { w.U32(0xfffefdfc) }, "\xfc\xfd\xfe\xff"},
		{func() { w.U64(0x0102030405060708) }, "\x08\x07\x06\x05\x04\x03\x02\x01"},
		{func() { w.U64(math.MaxUint64) }, "\xff\xff\xff\xff\xff\xff\xff\xff"},
		{func() { w.Text("") }, "\x00\x00\x00\x00"},
		{func() { w.Text("\x00\xffé") }, "\x04\x00\x00\x00\x00\xff\xc3\xa9"},
		{func() { w.Text(strings.Repeat("x", 258)) }, "\x02\x01\x00\x00" + strings.Repeat("x", 258)},
	}
	all := ""
	for _, s := range steps {
		s.write()
		all += s.want
		if got := string(w.Out()); got != all || w.Len() != len(all) {
			t.Fatalf("it holds %x (%d), not %x", got, w.Len(), all)
		}
	}
}

// P1.5 and R5: what was told before stays as it is, whatever is written later or done with it.
func TestWriterOutIsNew(t *testing.T) {
	w := bits.NewWriter()
	w.U32(0x04030201)
	one := w.Out()
	two := w.Out()
	w.U8(5)
	one[0] = 99
	_ = append(two, 98, 97, 96)
	w.U8(6)
	if !bytes.Equal(one, []byte{99, 2, 3, 4}) || !bytes.Equal(two, []byte{1, 2, 3, 4}) {
		t.Errorf("what was told before is %x, %x now", one, two)
	}
	if got := w.Out(); !bytes.Equal(got, []byte{1, 2, 3, 4, 5, 6}) {
		t.Errorf("it holds %x", got)
	}
}

func TestWritersAreApart(t *testing.T) {
	one, two := bits.NewWriter(), bits.NewWriter()
	one.U8(1)
	two.U8(2)
	one.U8(3)
	if !bytes.Equal(one.Out(), []byte{1, 3}) || !bytes.Equal(two.Out(), []byte{2}) {
		t.Errorf("they hold %x and %x", one.Out(), two.Out())
	}
}

// P1.6 and P1.8: the document's example.
func TestReaderOfExamples(t *testing.T) {
	b := []byte("\x07\x02\x01\x00\x00\x02\x00\x00\x00ab")
	r := bits.NewReader(b)
	stands(t, r, 0, 11, api.OK)
	if n := r.U8(); n != 7 {
		t.Errorf("U8 = %d", n)
	}
	stands(t, r, 1, 10, api.OK)
	if n := r.U32(); n != 258 {
		t.Errorf("U32 = %d", n)
	}
	stands(t, r, 5, 6, api.OK)
	if s := r.Text(1); s != "" {
		t.Errorf("Text(1) = %q", s)
	}
	stands(t, r, 5, 6, api.ErrBitsMost)
	refuses(t, r)

	r = bits.NewReader(b)
	if n := r.U64(); n != 0x0000020000010207 {
		t.Errorf("U64 = %x", n)
	}
	stands(t, r, 8, 3, api.OK)
	if r.End() != api.ErrBitsLeft {
		t.Errorf("End = %v with three bytes left", r.End())
	}
	stands(t, r, 8, 3, api.OK)
	if n := r.U32(); n != 0 {
		t.Errorf("U32 of three bytes = %x", n)
	}
	stands(t, r, 8, 3, api.ErrBitsShort)
	refuses(t, r)

	r = bits.NewReader([]byte{5, 0, 0, 0, 'a'})
	if s := r.Text(9); s != "" {
		t.Errorf("Text(9) = %q", s)
	}
	stands(t, r, 0, 5, api.ErrBitsShort)
	refuses(t, r)
}

// P1.6: each number of just its bytes, of more, and of fewer.
func TestReaderNumbers(t *testing.T) {
	b := []byte{0xf1, 0xe2, 0xd3, 0xc4, 0xb5, 0xa6, 0x97, 0x88, 0x79}
	rows := []struct {
		width int
		want  uint64
		read  func(r *bits.Reader) uint64
	}{
		{1, 0xf1, func(r *bits.Reader) uint64 { return uint64(r.U8()) }},
		{4, 0xc4d3e2f1, func(r *bits.Reader) uint64 { return uint64(r.U32()) }},
		{8, 0x8897a6b5c4d3e2f1, func(r *bits.Reader) uint64 { return r.U64() }},
	}
	for _, x := range rows {
		for n := range len(b) + 1 {
			r := bits.NewReader(b[:n])
			got := x.read(r)
			if n < x.width {
				if got != 0 {
					t.Errorf("%d bytes of %d tell %x", x.width, n, got)
				}
				stands(t, r, 0, n, api.ErrBitsShort)
				refuses(t, r)
				continue
			}
			if got != x.want {
				t.Errorf("%d bytes of %d tell %x, not %x", x.width, n, got, x.want)
			}
			stands(t, r, x.width, n-x.width, api.OK)
		}
	}
}

// P1.6: a fault behind good items leaves what was read, and the place, as they were.
func TestReaderFaultInTheMiddle(t *testing.T) {
	r := bits.NewReader([]byte{1, 2, 0, 0, 0, 3, 0})
	if r.U8() != 1 || r.U32() != 2 {
		t.Error("the numbers ahead are read otherwise")
	}
	if s := r.Text(100); s != "" {
		t.Errorf("Text of two bytes = %q", s)
	}
	stands(t, r, 5, 2, api.ErrBitsShort)
	refuses(t, r)
}

// P1.6: which text is told, and which of the faults where several apply.
func TestReaderText(t *testing.T) {
	rows := []struct {
		b    string
		most int
		want string
		e    api.Errno
	}{
		{"\x02\x00\x00\x00ab", 2, "ab", api.OK},
		{"\x02\x00\x00\x00abc", 9, "ab", api.OK},
		{"\x02\x00\x00\x00ab", math.MaxInt, "ab", api.OK},
		{"\x02\x00\x00\x00ab", 1, "", api.ErrBitsMost},
		{"\x02\x00\x00\x00ab", 0, "", api.ErrBitsMost},
		{"\x02\x00\x00\x00ab", -1, "", api.ErrBitsMost},
		{"\x02\x00\x00\x00ab", math.MinInt, "", api.ErrBitsMost},
		{"\x02\x00\x00\x00a", 1, "", api.ErrBitsMost},
		{"\x02\x00\x00\x00a", 2, "", api.ErrBitsShort},
		{"\x02\x00\x00\x00", 2, "", api.ErrBitsShort},
		{"\x00\x00\x00\x00", 0, "", api.OK},
		{"\x00\x00\x00\x00", -1, "", api.OK},
		{"\x00\x00\x00\x00", math.MinInt, "", api.OK},
		{"\x00\x00\x00\x00x", 3, "", api.OK},
		{"\x02\x00\x00", 0, "", api.ErrBitsShort},
		{"", -1, "", api.ErrBitsShort},
		{"\x03\x00\x00\x00\x00\xff\n", 3, "\x00\xff\n", api.OK},
		{"\xff\xff\xff\xffab", 4294967294, "", api.ErrBitsMost},
		{"\xff\xff\xff\xffab", 4294967295, "", api.ErrBitsShort},
		{"\xff\xff\xff\xffab", math.MaxInt, "", api.ErrBitsShort},
		{"\x00\x00\x00\x80ab", math.MaxInt32, "", api.ErrBitsMost},
	}
	for _, x := range rows {
		r := bits.NewReader([]byte(x.b))
		if got := r.Text(x.most); got != x.want {
			t.Errorf("Text(%d) of %q = %q, not %q", x.most, x.b, got, x.want)
		}
		at := 0
		if x.e == api.OK {
			at = 4 + len(x.want)
		}
		stands(t, r, at, len(x.b)-at, x.e)
		if x.e != api.OK {
			refuses(t, r)
		}
	}
}

// P1.7: the first fault stays, though a later call would have another one.
func TestReaderKeepsTheFirstFault(t *testing.T) {
	r := bits.NewReader([]byte{2, 0, 0, 0, 'a', 'b'})
	r.Text(1)
	r.U64()
	stands(t, r, 0, 6, api.ErrBitsMost)
	r = bits.NewReader([]byte{2, 0, 0, 0, 'a', 'b'})
	r.U64()
	r.Text(1)
	stands(t, r, 0, 6, api.ErrBitsShort)
	refuses(t, r)
}

// P1.8: End tells the fault, else whether bytes are left, and changes nothing.
func TestReaderEnd(t *testing.T) {
	r := bits.NewReader([]byte{1, 2})
	for left := 2; left > 0; left-- {
		if r.End() != api.ErrBitsLeft || r.End() != api.ErrBitsLeft {
			t.Errorf("End = %v with %d bytes left", r.End(), left)
		}
		stands(t, r, 2-left, left, api.OK)
		if n := r.U8(); int(n) != 3-left {
			t.Errorf("U8 behind End = %d", n)
		}
	}
	if r.End() != api.OK {
		t.Errorf("End = %v at the end", r.End())
	}
	r.U8()
	if r.End() != api.ErrBitsShort {
		t.Errorf("End = %v behind a fault at the end", r.End())
	}
	for _, none := range [][]byte{nil, {}} {
		r = bits.NewReader(none)
		stands(t, r, 0, 0, api.OK)
		if r.End() != api.OK {
			t.Errorf("End of no bytes = %v", r.End())
		}
	}
}

// A reader has bytes of its own: it sees no later change, and makes none.
func TestReaderHasBytesOfItsOwn(t *testing.T) {
	b := []byte{1, 0, 0, 0, 'a', 9}
	r := bits.NewReader(b[:5])
	b[4] = 'b'
	if s := r.Text(1); s != "a" || r.End() != api.OK {
		t.Errorf("Text = %q, End = %v", s, r.End())
	}
	if !bytes.Equal(b, []byte{1, 0, 0, 0, 'b', 9}) {
		t.Errorf("the bytes that were handed in are %x now", b)
	}
}

// P1.9
func TestNilWriter(t *testing.T) {
	var w *bits.Writer
	w.U8(1)
	w.U32(2)
	w.U64(3)
	w.Text("")
	w.Text("abc")
	if w.Len() != 0 || len(w.Out()) != 0 {
		t.Errorf("a nil writer holds %x (%d)", w.Out(), w.Len())
	}
}

// P1.9
func TestNilReader(t *testing.T) {
	var r *bits.Reader
	if r.U8() != 0 || r.U32() != 0 || r.U64() != 0 || r.Text(3) != "" || r.Text(-3) != "" {
		t.Error("a nil reader tells something")
	}
	stands(t, r, 0, 0, api.ErrNil)
	if r.End() != api.ErrNil {
		t.Errorf("End of a nil reader = %v", r.End())
	}
}

// item is something that is written and read back.
type item struct {
	width int // bytes of a number; 0: a text
	n     uint64
	text  string
}

func someItems(source *rand.Rand) []item {
	list := make([]item, source.IntN(8))
	for i := range list {
		width := []int{0, 1, 4, 8}[source.IntN(4)]
		list[i] = item{width: width, n: source.Uint64() >> source.IntN(64)}
		if width == 0 {
			list[i].text = string(someBytes(source, source.IntN(12)))
		}
	}
	return list
}

func (x item) write(w *bits.Writer) {
	switch x.width {
	case 1:
		w.U8(uint8(x.n))
	case 4:
		w.U32(uint32(x.n))
	case 8:
		w.U64(x.n)
	default:
		w.Text(x.text)
	}
}

// isNext reads an item by the call that wrote it; whether it is the same.
func (x item) isNext(r *bits.Reader) bool {
	switch x.width {
	case 1:
		return r.U8() == uint8(x.n)
	case 4:
		return r.U32() == uint32(x.n)
	case 8:
		return r.U64() == x.n
	default:
		return r.Text(len(x.text)) == x.text
	}
}

// P1.10: what was written is read back; a shorter beginning ends in ErrBitsShort.
func TestReadersReadWhatWritersWrote(t *testing.T) {
	source := rand.New(rand.NewPCG(5, 5))
	for range 500 {
		list := someItems(source)
		w := bits.NewWriter()
		for _, x := range list {
			x.write(w)
		}
		b := w.Out()
		r := bits.NewReader(b)
		for i, x := range list {
			if !x.isNext(r) || r.Fault() != api.OK {
				t.Fatalf("of %x item %d is read otherwise (%v)", b, i, r.Fault())
			}
		}
		if r.End() != api.OK || r.At() != w.Len() {
			t.Fatalf("of %x End is %v at %d", b, r.End(), r.At())
		}
		for n := range b {
			r := bits.NewReader(b[:n])
			for _, x := range list {
				x.isNext(r)
			}
			if r.Fault() != api.ErrBitsShort || r.End() != api.ErrBitsShort {
				t.Fatalf("of the first %d bytes of %x the fault is %v, End is %v", n, b, r.Fault(), r.End())
			}
		}
	}
}

// The section 'Ways': a writer and a reader embed one struct.
func TestWriterAndReaderEmbedOneStruct(t *testing.T) {
	one, two := embedded(bits.Writer{}), embedded(bits.Reader{})
	if one == nil || one != two {
		t.Errorf("a writer embeds %v, a reader %v", one, two)
	}
}

func embedded(x any) reflect.Type {
	kind := reflect.TypeOf(x)
	for i := range kind.NumField() {
		if f := kind.Field(i); f.Anonymous {
			return f.Type
		}
	}
	return nil
}
