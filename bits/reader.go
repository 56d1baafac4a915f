package bits

import "bulkhead/api"

// Reader takes bytes apart, up to the first fault.
type Reader struct {
	store
	fault api.Errno
}

// NewReader begins at the first of the bytes.
func NewReader(b []byte) *Reader {
	r := &Reader{store: store{held: make([]byte, len(b))}}
	copy(r.held, b)
	return r
}

func (r *Reader) U8() uint8 { return uint8(r.number(1)) }

func (r *Reader) U32() uint32 { return uint32(r.number(wordBytes)) }

func (r *Reader) U64() uint64 { return r.number(2 * wordBytes) }

// Text reads a text of at most so many bytes.
func (r *Reader) Text(most int) string {
	begin := r.At()
	n := int64(r.U32())
	if r.Fault() != api.OK {
		return ""
	}
	if n > int64(max(most, 0)) {
		r.refuse(begin, api.ErrBitsMost)
		return ""
	}
	if n > int64(r.left()) {
		r.refuse(begin, api.ErrBitsShort)
		return ""
	}
	return string(r.next(int(n)))
}

// Left tells how many bytes are left, At where the next item begins, Fault the first fault, End too whether bytes are left.
func (r *Reader) Left() int {
	if r == nil {
		return 0
	}
	return r.left()
}

func (r *Reader) At() int {
	if r == nil {
		return 0
	}
	return r.at()
}

func (r *Reader) Fault() api.Errno {
	if r == nil {
		return api.ErrNil
	}
	return r.fault
}

func (r *Reader) End() api.Errno {
	if e := r.Fault(); e != api.OK {
		return e
	}
	if r.left() > 0 {
		return api.ErrBitsLeft
	}
	return api.OK
}

// number reads a number of so many bytes; 0 beside a fault.
func (r *Reader) number(width int) uint64 {
	if r.Fault() != api.OK {
		return 0
	}
	if r.left() < width {
		r.refuse(r.at(), api.ErrBitsShort)
		return 0
	}
	return gather(r.next(width))
}

// refuse keeps a fault, and goes back to where the item began: a part of it may have been read already.
func (r *Reader) refuse(begin int, e api.Errno) {
	r.place = begin
	r.fault = e
}
