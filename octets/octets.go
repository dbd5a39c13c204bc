// Package octets is layer 1: see shared/doc/01-octets.md.
package octets

import (
	"bytes"
	"math/bits"

	"hourglass/api"
)

// mostBytes is what the document promises anything of: it bounds Zeros, where one number alone could ask for more memory than there is.
const mostBytes = 1<<31 - 1

type number interface {
	uint8 | uint16 | uint32 | uint64
}

// width is asked of the type, so that no caller can name a size that is not its number's.
func width[N number]() int {
	return bits.Len64(uint64(^N(0))) / 8
}

// Reader takes bytes from the left (A1).
type Reader struct {
	left []byte
}

// Read reads bytes (A1). It copies them, because who owns them may write over them.
func Read(b []byte) *Reader {
	return &Reader{left: bytes.Clone(b)}
}

// U8 takes a number of one byte (A1).
func (r *Reader) U8() (uint8, api.Errno) { return take[uint8](r) }

// U16 takes a number of two bytes (A1).
func (r *Reader) U16() (uint16, api.Errno) { return take[uint16](r) }

// U32 takes a number of four bytes (A1).
func (r *Reader) U32() (uint32, api.Errno) { return take[uint32](r) }

// U64 takes a number of eight bytes (A1).
func (r *Reader) U64() (uint64, api.Errno) { return take[uint64](r) }

// take gathers in 64 bits, because a byte can't be moved to the left by its own width.
func take[N number](r *Reader) (N, api.Errno) {
	b, err := r.Bytes(width[N]())
	if err != api.OK {
		return 0, err
	}
	var n uint64
	for _, x := range b {
		n = n<<8 | uint64(x)
	}
	return N(n), api.OK
}

// Bytes takes n bytes (A1).
func (r *Reader) Bytes(n int) ([]byte, api.Errno) {
	if n < 0 {
		return nil, api.ErrArg
	}
	if n > len(r.left) {
		return nil, api.ErrShort
	}
	b := bytes.Clone(r.left[:n])
	r.left = r.left[n:]
	return b, api.OK
}

// Rest takes all that are left (A1).
func (r *Reader) Rest() []byte {
	b := bytes.Clone(r.left)
	r.left = nil
	return b
}

// Left tells how many are left (A1).
func (r *Reader) Left() int { return len(r.left) }

// Done tells whether none are left (A1).
func (r *Reader) Done() api.Errno {
	if len(r.left) > 0 {
		return api.ErrForm
	}
	return api.OK
}

// Writer puts bytes one behind the other (A2). It is handed on by its pointer: two copies of one that has written would write into the same room.
type Writer struct {
	has []byte
}

// U8 puts a number of one byte (A2).
func (w *Writer) U8(n uint8) *Writer { return put(w, n) }

// U16 puts a number of two bytes (A2).
func (w *Writer) U16(n uint16) *Writer { return put(w, n) }

// U32 puts a number of four bytes (A2).
func (w *Writer) U32(n uint32) *Writer { return put(w, n) }

// U64 puts a number of eight bytes (A2).
func (w *Writer) U64(n uint64) *Writer { return put(w, n) }

// put is the way back of take.
func put[N number](w *Writer, n N) *Writer {
	for i := width[N]() - 1; i >= 0; i-- {
		w.has = append(w.has, byte(uint64(n)>>(8*i)))
	}
	return w
}

// Bytes puts bytes (A2).
func (w *Writer) Bytes(b []byte) *Writer {
	w.has = append(w.has, b...)
	return w
}

// Zeros puts n bytes of 0 (A2); none, if with them there were more than anything is promised of.
func (w *Writer) Zeros(n int) *Writer {
	if n > 0 && n <= mostBytes-len(w.has) {
		w.has = append(w.has, make([]byte, n)...)
	}
	return w
}

// Done tells all that was put (A2).
func (w *Writer) Done() []byte { return bytes.Clone(w.has) }
