package octets

import (
	"bytes"
	"math"
	"testing"

	"hourglass/api"
)

// ask is a call of a reader that takes a number.
type ask struct {
	name string
	size int
	take func(r *Reader) (uint64, api.Errno)
}

// asks are the four calls, with their numbers as uint64, so that one test can go through all.
func asks() []ask {
	return []ask{
		{"U8", 1, func(r *Reader) (uint64, api.Errno) { n, err := r.U8(); return uint64(n), err }},
		{"U16", 2, func(r *Reader) (uint64, api.Errno) { n, err := r.U16(); return uint64(n), err }},
		{"U32", 4, func(r *Reader) (uint64, api.Errno) { n, err := r.U32(); return uint64(n), err }},
		{"U64", 8, func(r *Reader) (uint64, api.Errno) { n, err := r.U64(); return n, err }},
	}
}

// wantLeft takes the rest, so it comes last in a test.
func wantLeft(t *testing.T, what string, r *Reader, want []byte) {
	t.Helper()
	if r.Left() != len(want) {
		t.Errorf("%s: Left %d, want %d", what, r.Left(), len(want))
	}
	if b := r.Rest(); !bytes.Equal(b, want) {
		t.Errorf("%s: left % x, want % x", what, b, want)
	}
}

func TestA1HighestFirst(t *testing.T) {
	b := []byte{0x81, 0x02, 0x03, 0x04, 0x05, 0x06, 0x07, 0x08, 0xee}
	want := map[string]uint64{"U8": 0x81, "U16": 0x8102, "U32": 0x81020304, "U64": 0x8102030405060708}
	for _, a := range asks() {
		r := Read(b)
		if n, err := a.take(r); n != want[a.name] || err != api.OK {
			t.Errorf("%s: %x %v, want %x", a.name, n, err, want[a.name])
		}
		wantLeft(t, a.name, r, b[a.size:])
	}
}

func TestA1Example(t *testing.T) {
	if n, err := Read([]byte{2, 1}).U16(); n != 513 || err != api.OK {
		t.Errorf("%d %v, want 513", n, err)
	}
}

func TestA1LargestAndZero(t *testing.T) {
	for _, a := range asks() {
		most := uint64(math.MaxUint64) >> (64 - 8*a.size)
		r := Read(append(bytes.Repeat([]byte{0xff}, a.size), make([]byte, a.size)...))
		if n, err := a.take(r); n != most || err != api.OK {
			t.Errorf("%s: %x %v, want %x", a.name, n, err, most)
		}
		if n, err := a.take(r); n != 0 || err != api.OK {
			t.Errorf("%s: %x %v, want 0", a.name, n, err)
		}
		wantLeft(t, a.name, r, nil)
	}
}

func TestA1TooShortTakesNothing(t *testing.T) {
	all := []byte{0xf1, 0xf2, 0xf3, 0xf4, 0xf5, 0xf6, 0xf7}
	for _, a := range asks() {
		for have := range a.size {
			r := Read(all[:have])
			for range 2 {
				if n, err := a.take(r); n != 0 || err != api.ErrShort {
					t.Errorf("%s of %d bytes: %x %v, want 0 ErrShort", a.name, have, n, err)
				}
			}
			wantLeft(t, a.name, r, all[:have])
		}
	}
}

func TestA1ShorterOneAfterShort(t *testing.T) {
	r := Read([]byte{1, 2, 3})
	if _, err := r.U32(); err != api.ErrShort {
		t.Errorf("U32: %v", err)
	}
	if n, err := r.U16(); n != 0x0102 || err != api.OK {
		t.Errorf("U16: %x %v", n, err)
	}
	if n, err := r.U8(); n != 3 || err != api.OK {
		t.Errorf("U8: %x %v", n, err)
	}
}

func TestA1Bytes(t *testing.T) {
	all := []byte{1, 2, 3, 4, 5}
	for n := range len(all) + 1 {
		r := Read(all)
		if b, err := r.Bytes(n); !bytes.Equal(b, all[:n]) || err != api.OK {
			t.Errorf("Bytes(%d): % x %v", n, b, err)
		}
		wantLeft(t, "Bytes", r, all[n:])
	}
}

func TestA1BytesWrong(t *testing.T) {
	all := []byte{1, 2, 3}
	for _, have := range []int{0, 1, 3} {
		rows := []struct {
			n    int
			want api.Errno
		}{{-1, api.ErrArg}, {math.MinInt, api.ErrArg}, {have + 1, api.ErrShort}, {math.MaxInt, api.ErrShort}}
		for _, x := range rows {
			r := Read(all[:have])
			if b, err := r.Bytes(x.n); len(b) != 0 || err != x.want {
				t.Errorf("Bytes(%d) of %d: % x %v, want %v", x.n, have, b, err, x.want)
			}
			wantLeft(t, "Bytes", r, all[:have])
		}
	}
}

func TestA1NothingLeft(t *testing.T) {
	done := Read([]byte{7})
	done.Rest()
	for _, r := range []*Reader{Read(nil), Read([]byte{}), done} {
		if r.Left() != 0 || r.Done() != api.OK || len(r.Rest()) != 0 {
			t.Errorf("Left %d Done %v", r.Left(), r.Done())
		}
		if b, err := r.Bytes(0); len(b) != 0 || err != api.OK {
			t.Errorf("Bytes(0): % x %v", b, err)
		}
		if b, err := r.Bytes(1); len(b) != 0 || err != api.ErrShort {
			t.Errorf("Bytes(1): % x %v", b, err)
		}
	}
}

func TestA1LeftAndDone(t *testing.T) {
	r := Read([]byte{1, 2, 3})
	for left := 3; left > 0; left-- {
		if r.Left() != left || r.Done() != api.ErrForm {
			t.Errorf("Left %d Done %v, want %d ErrForm", r.Left(), r.Done(), left)
		}
		r.U8()
	}
	if r.Left() != 0 || r.Done() != api.OK {
		t.Errorf("Left %d Done %v, want 0 OK", r.Left(), r.Done())
	}
}

func TestA1RestTakesAll(t *testing.T) {
	r := Read([]byte{1, 2, 3})
	r.U8()
	if b := r.Rest(); !bytes.Equal(b, []byte{2, 3}) {
		t.Errorf("% x", b)
	}
	if r.Left() != 0 || r.Done() != api.OK || len(r.Rest()) != 0 {
		t.Errorf("Left %d Done %v", r.Left(), r.Done())
	}
	if n, err := r.U8(); n != 0 || err != api.ErrShort {
		t.Errorf("%d %v", n, err)
	}
}

func TestA1InputStaysAndIsNotKept(t *testing.T) {
	in := []byte{1, 2, 3, 4}
	r := Read(in)
	b, _ := r.Bytes(2)
	b[0], b[1] = 90, 91
	_ = append(b, 92, 93)
	if !bytes.Equal(in, []byte{1, 2, 3, 4}) {
		t.Errorf("the input is % x", in)
	}
	clear(in)
	wantLeft(t, "after clear", r, []byte{3, 4})
}

func TestA1ToldIsTheCallers(t *testing.T) {
	in := []byte{1, 2, 3}
	r := Read(in)
	rest := r.Rest()
	clear(rest)
	_ = append(rest, 9)
	if !bytes.Equal(in, []byte{1, 2, 3}) || r.Left() != 0 {
		t.Errorf("the input is % x, Left %d", in, r.Left())
	}
}

func TestA1ReadersApart(t *testing.T) {
	in := []byte{1, 2}
	a, b := Read(in), Read(in)
	a.Rest()
	wantLeft(t, "the other", b, in)
}

func TestA2NothingWritten(t *testing.T) {
	var w Writer
	if b := w.Done(); len(b) != 0 {
		t.Errorf("% x", b)
	}
	if b := w.Bytes(nil).Bytes([]byte{}).Zeros(0).Done(); len(b) != 0 {
		t.Errorf("% x", b)
	}
}

func TestA2Puts(t *testing.T) {
	rows := []struct {
		name string
		put  func(w *Writer) *Writer
		want []byte
	}{
		{"U8", func(w *Writer) *Writer { return w.U8(0x81) }, []byte{0x81}},
		{"U8 of 0", func(w *Writer) *Writer { return w.U8(0) }, []byte{0}},
		{"U16", func(w *Writer) *Writer { return w.U16(0x8102) }, []byte{0x81, 2}},
		{"U16 of 513", func(w *Writer) *Writer { return w.U16(513) }, []byte{2, 1}},
		{"U16 of 1", func(w *Writer) *Writer { return w.U16(1) }, []byte{0, 1}},
		{"U32", func(w *Writer) *Writer { return w.U32(0x81020304) }, []byte{0x81, 2, 3, 4}},
		{"U32 of 1", func(w *Writer) *Writer { return w.U32(1) }, []byte{0, 0, 0, 1}},
		{"U64", func(w *Writer) *Writer { return w.U64(0x8102030405060708) }, []byte{0x81, 2, 3, 4, 5, 6, 7, 8}},
		{"U64 of 1", func(w *Writer) *Writer { return w.U64(1) }, []byte{0, 0, 0, 0, 0, 0, 0, 1}},
		{"U64 of the largest", func(w *Writer) *Writer { return w.U64(math.MaxUint64) }, bytes.Repeat([]byte{0xff}, 8)},
		{"Bytes", func(w *Writer) *Writer { return w.Bytes([]byte("xyz")) }, []byte("xyz")},
		{"Zeros", func(w *Writer) *Writer { return w.Zeros(3) }, []byte{0, 0, 0}},
		{"Zeros of 0", func(w *Writer) *Writer { return w.Zeros(0) }, nil},
		{"Zeros of -1", func(w *Writer) *Writer { return w.Zeros(-1) }, nil},
		{"Zeros of the least", func(w *Writer) *Writer { return w.Zeros(math.MinInt) }, nil},
	}
	for _, x := range rows {
		w := new(Writer)
		w.Bytes([]byte{0xaa})
		if x.put(w) != w {
			t.Errorf("%s does not answer the writer", x.name)
		}
		want := append([]byte{0xaa}, x.want...)
		if b := w.Done(); !bytes.Equal(b, want) {
			t.Errorf("%s: % x, want % x", x.name, b, want)
		}
	}
}

// The document promises nothing of such numbers of bytes, but that no call panics.
func TestA2ZerosBeyondAllBounds(t *testing.T) {
	w := new(Writer).U8(5)
	for _, n := range []int{math.MaxInt, mostBytes} {
		if b := w.Zeros(n).Done(); !bytes.Equal(b, []byte{5}) {
			t.Errorf("Zeros(%d): %d bytes", n, len(b))
		}
	}
}

func TestA2InputStaysAndIsNotKept(t *testing.T) {
	in := make([]byte, 2, 8)
	in[0], in[1] = 1, 2
	w := new(Writer).Bytes(in)
	w.U8(3)
	if !bytes.Equal(in[:3], []byte{1, 2, 0}) {
		t.Errorf("the input is % x", in[:3])
	}
	clear(in)
	if b := w.Done(); !bytes.Equal(b, []byte{1, 2, 3}) {
		t.Errorf("% x", b)
	}
}

func TestA2ToldIsTheCallers(t *testing.T) {
	w := new(Writer).U16(0x0102).U8(3)
	first, second := w.Done(), w.Done()
	clear(first)
	_ = append(first, 99)
	if !bytes.Equal(second, []byte{1, 2, 3}) {
		t.Errorf("the second is % x", second)
	}
	w.Zeros(1)
	_ = append(second, 99)
	if b := w.Done(); !bytes.Equal(b, []byte{1, 2, 3, 0}) {
		t.Errorf("% x", b)
	}
	if len(second) != 3 {
		t.Errorf("the second has %d bytes", len(second))
	}
}

func TestA2WritersApart(t *testing.T) {
	var a, b Writer
	a.U8(1)
	b.U8(2)
	a.U8(3)
	if x, y := a.Done(), b.Done(); !bytes.Equal(x, []byte{1, 3}) || !bytes.Equal(y, []byte{2}) {
		t.Errorf("% x and % x", x, y)
	}
}

func TestWrittenIsRead(t *testing.T) {
	for _, n := range []uint64{0, 1, 0x7f, 0x80, 0xff, 0x100, 0x8000, 0xffff, 0x12345678, 1 << 31, 1 << 32, 1 << 63, 0x0123456789abcdef, math.MaxUint64} {
		text := []byte("text")
		r := Read(new(Writer).U64(n).Bytes(text).U32(uint32(n)).Zeros(2).U16(uint16(n)).U8(uint8(n)).Done())
		u64, err1 := r.U64()
		b, err2 := r.Bytes(len(text))
		u32, err3 := r.U32()
		z, err4 := r.Bytes(2)
		u16, err5 := r.U16()
		u8, err6 := r.U8()
		for i, err := range []api.Errno{err1, err2, err3, err4, err5, err6, r.Done()} {
			if err != api.OK {
				t.Errorf("%x: step %d: %v", n, i, err)
			}
		}
		if u64 != n || u32 != uint32(n) || u16 != uint16(n) || u8 != uint8(n) {
			t.Errorf("%x: %x %x %x %x", n, u64, u32, u16, u8)
		}
		if !bytes.Equal(b, text) || !bytes.Equal(z, []byte{0, 0}) {
			t.Errorf("%x: % x, % x", n, b, z)
		}
	}
}
