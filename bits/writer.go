package bits

// Writer gathers bytes.
type Writer struct {
	store
}

// NewWriter makes a writer that holds nothing.
func NewWriter() *Writer { return &Writer{} }

// U8, U32 and U64 write a number in one, four, eight bytes, Text a text behind its length.
func (w *Writer) U8(n uint8) { w.number(1, uint64(n)) }

func (w *Writer) U32(n uint32) { w.number(wordBytes, uint64(n)) }

func (w *Writer) U64(n uint64) { w.number(2*wordBytes, n) }

func (w *Writer) Text(s string) {
	if w == nil {
		return
	}
	w.U32(uint32(len(s)))
	copy(w.more(len(s)), s)
}

// Len tells how many bytes there are, Out the bytes.
func (w *Writer) Len() int {
	if w == nil {
		return 0
	}
	return w.size()
}

func (w *Writer) Out() []byte {
	if w == nil {
		return nil
	}
	out := make([]byte, w.size())
	copy(out, w.held)
	return out
}

func (w *Writer) number(width int, n uint64) {
	if w == nil {
		return
	}
	spread(w.more(width), n)
}

// more makes room for n bytes behind those that are held, and tells it.
func (w *Writer) more(n int) []byte {
	w.held = append(w.held, make([]byte, n)...)
	return w.next(n)
}
