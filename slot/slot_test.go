package slot

import (
	"bytes"
	"encoding/binary"
	"math"
	"slices"
	"testing"

	"hourglass/api"
)

const most64 = math.MaxUint64

// random gives words that are the same in each run.
func random() func() uint64 {
	x := uint64(1)
	return func() uint64 {
		x = x*6364136223846793005 + 1442695040888963407
		return x ^ x>>29
	}
}

// pattern fills bytes, each with a number of its own as far as there are so many.
func pattern(b []byte, first int) {
	for i := range b {
		b[i] = byte(first + i)
	}
}

// onward and final are slots that say all that one of their kind may, no two bytes of a number the same.
func onward() api.Slot {
	s := api.Slot{Next: 0x0102, Lo: 0x1112131415161718, Hi: 0x2122232425262728, Delay: 0x31323334, Who: 0x4142, Epoch: 0x51525354}
	pattern(s.Nonce[:], 0x61)
	pattern(s.MAC[:], 0x81)
	return s
}

func final() api.Slot {
	return api.Slot{Last: true, Box: 0x0102, Lo: 0x1112131415161718, Hi: 0x2122232425262728, Delay: 0x31323334}
}

// rightSlots are slots of both kinds, with numbers at both ends of what their types hold.
func rightSlots() []api.Slot {
	slots := []api.Slot{{}, {Last: true}, onward(), final()}
	for _, times := range [][2]uint64{{0, 0}, {0, 1}, {1, 1}, {0, most64}, {1, most64}, {most64 - 1, most64}, {most64, most64}, {1, 1 << 63}, {1<<63 - 1, 1 << 63}, {255, 256}} {
		slots = append(slots, api.Slot{Lo: times[0], Hi: times[1]}, api.Slot{Last: true, Lo: times[0], Hi: times[1]})
	}
	for _, n := range []uint16{1, 0xFF, 0x100, 0x7FFF, 0x8000, 0xFFFF} {
		slots = append(slots, api.Slot{Next: api.Addr(n)}, api.Slot{Who: api.Who(n)}, api.Slot{Last: true, Box: api.Box(n)})
	}
	for _, n := range []uint32{1, 0xFF, 0x100, 0xFFFF, 0x10000, 0xFFFFFF, 1 << 24, math.MaxInt32, 1 << 31, math.MaxUint32} {
		slots = append(slots, api.Slot{Delay: n}, api.Slot{Epoch: n}, api.Slot{Last: true, Delay: n})
	}
	for i := range 16 {
		var one, other api.Slot
		one.Nonce[i], other.MAC[i] = 1, 0xFF
		slots = append(slots, one, other)
	}
	return slots
}

// wrongSlots are slots that say, beside what is right, one thing that they may not.
func wrongSlots() []api.Slot {
	var slots []api.Slot
	for _, times := range [][2]uint64{{1, 0}, {most64, 0}, {most64, most64 - 1}, {1 << 63, 1}, {1 << 63, 1<<63 - 1}, {1 << 32, 1<<32 - 1}, {256, 255}} {
		slots = append(slots, api.Slot{Lo: times[0], Hi: times[1]}, api.Slot{Last: true, Lo: times[0], Hi: times[1]})
	}
	for _, box := range []api.Box{1, 0xFF, 0x100, 0x8000, 0xFFFF} {
		s := onward()
		s.Box = box
		slots = append(slots, s, api.Slot{Box: box})
	}
	for _, change := range lastChanges() {
		for _, s := range []api.Slot{{Last: true}, final()} {
			change(&s)
			slots = append(slots, s)
		}
	}
	return slots
}

// lastChanges are what a slot that is Last may not say, each alone.
func lastChanges() []func(*api.Slot) {
	var changes []func(*api.Slot)
	for _, n := range []uint16{1, 0xFF, 0x100, 0x8000, 0xFFFF} {
		changes = append(changes, func(s *api.Slot) { s.Next = api.Addr(n) }, func(s *api.Slot) { s.Who = api.Who(n) })
	}
	for _, n := range []uint32{1, 0x100, 0x10000, 1 << 24, 1 << 31, math.MaxUint32} {
		changes = append(changes, func(s *api.Slot) { s.Epoch = n })
	}
	for i := range 16 {
		for _, x := range []byte{1, 0x80, 0xFF} {
			changes = append(changes, func(s *api.Slot) { s.Nonce[i] = x }, func(s *api.Slot) { s.MAC[i] = x })
		}
	}
	return changes
}

// otherRight is written from the chapter, one thing behind the other.
func otherRight(s api.Slot) bool {
	if s.Lo > s.Hi {
		return false
	}
	if !s.Last {
		return s.Box == 0
	}
	for i := range 16 {
		if s.Nonce[i] != 0 || s.MAC[i] != 0 {
			return false
		}
	}
	return s.Next == 0 && s.Who == 0 && s.Epoch == 0
}

// otherBytes puts each field at its place.
func otherBytes(s api.Slot) [64]byte {
	var b [64]byte
	binary.BigEndian.PutUint16(b[1:], uint16(s.Next))
	if s.Last {
		b[0] = 1
		binary.BigEndian.PutUint16(b[1:], uint16(s.Box))
	}
	binary.BigEndian.PutUint64(b[3:], s.Lo)
	binary.BigEndian.PutUint64(b[11:], s.Hi)
	binary.BigEndian.PutUint32(b[19:], s.Delay)
	binary.BigEndian.PutUint16(b[23:], uint16(s.Who))
	binary.BigEndian.PutUint32(b[25:], s.Epoch)
	copy(b[29:45], s.Nonce[:])
	copy(b[45:61], s.MAC[:])
	return b
}

// otherSlot looks at the bytes alone: it does not encode.
func otherSlot(b [64]byte) (api.Slot, bool) {
	if b[0] > 1 || b[61] != 0 || b[62] != 0 || b[63] != 0 {
		return api.Slot{}, false
	}
	s := api.Slot{Last: b[0] == 1, Lo: binary.BigEndian.Uint64(b[3:]), Hi: binary.BigEndian.Uint64(b[11:]), Delay: binary.BigEndian.Uint32(b[19:])}
	if s.Lo > s.Hi {
		return api.Slot{}, false
	}
	to := binary.BigEndian.Uint16(b[1:])
	if s.Last {
		s.Box = api.Box(to)
		return s, bytes.Count(b[23:61], []byte{0}) == 38
	}
	s.Next, s.Who, s.Epoch = api.Addr(to), api.Who(binary.BigEndian.Uint16(b[23:])), binary.BigEndian.Uint32(b[25:])
	s.Nonce, s.MAC = api.Nonce(b[29:45]), api.MAC(b[45:61])
	return s, true
}

func wantRight(t *testing.T, s api.Slot, want api.Errno) {
	t.Helper()
	if err := Right(s); err != want {
		t.Errorf("Right(%v): %v, want %v", s, err, want)
	}
}

func wantEncode(t *testing.T, s api.Slot, want [64]byte, wantErr api.Errno) {
	t.Helper()
	if b, err := Encode(s); b != want || err != wantErr {
		t.Errorf("Encode(%v): % X, %v, want % X, %v", s, b, err, want, wantErr)
	}
}

func wantDecode(t *testing.T, b [64]byte, want api.Slot, wantErr api.Errno) {
	t.Helper()
	if s, err := Decode(b); s != want || err != wantErr {
		t.Errorf("Decode(% X): %v, %v, want %v, %v", b, s, err, want, wantErr)
	}
}

// wantBytes: a slot that is right, these are its bytes, and it comes out of them.
func wantBytes(t *testing.T, s api.Slot, want [64]byte) {
	t.Helper()
	wantRight(t, s, api.OK)
	wantEncode(t, s, want, api.OK)
	wantDecode(t, want, s, api.OK)
}

func wantWrong(t *testing.T, s api.Slot) {
	t.Helper()
	wantRight(t, s, api.ErrArg)
	wantEncode(t, s, [64]byte{}, api.ErrArg)
}

func wantNoSlot(t *testing.T, b [64]byte) {
	t.Helper()
	wantDecode(t, b, api.Slot{}, api.ErrForm)
}

// wantAsOther holds what Decode says of any bytes against the other way to read them.
func wantAsOther(t *testing.T, b [64]byte) {
	t.Helper()
	s, ok := otherSlot(b)
	if !ok {
		wantNoSlot(t, b)
		return
	}
	wantDecode(t, b, s, api.OK)
	wantEncode(t, s, b, api.OK)
}

func row(parts ...string) [64]byte {
	var b [64]byte
	at := 0
	for _, part := range parts {
		at += copy(b[at:], part)
	}
	return b
}

func TestJ1Noughts(t *testing.T) {
	wantBytes(t, api.Slot{}, [64]byte{})
	wantBytes(t, api.Slot{Last: true}, [64]byte{1})
}

func TestJ1Times(t *testing.T) {
	for _, last := range []bool{false, true} {
		for _, times := range [][2]uint64{{0, 0}, {1, 1}, {5, 6}, {5, 5}, {0, most64}, {most64, most64}, {most64 - 1, most64}, {1<<63 - 1, 1 << 63}, {1, 1 << 63}} {
			wantRight(t, api.Slot{Last: last, Lo: times[0], Hi: times[1]}, api.OK)
		}
		for _, times := range [][2]uint64{{1, 0}, {6, 5}, {most64, 0}, {most64, most64 - 1}, {1 << 63, 1<<63 - 1}, {1 << 63, 1}, {1 << 32, 0}} {
			wantWrong(t, api.Slot{Last: last, Lo: times[0], Hi: times[1]})
		}
	}
}

func TestJ1LastSaysNoMore(t *testing.T) {
	wantRight(t, final(), api.OK)
	for _, change := range lastChanges() {
		for _, s := range []api.Slot{{Last: true}, final()} {
			change(&s)
			wantWrong(t, s)
			s.Last, s.Box = false, 0 // what a Last one may not say, all others may
			wantRight(t, s, api.OK)
		}
	}
}

func TestJ1NoBoxAhead(t *testing.T) {
	wantRight(t, onward(), api.OK)
	for _, box := range []api.Box{1, 2, 0xFF, 0x100, 0x7FFF, 0x8000, 0xFFFF} {
		s := onward()
		s.Box = box
		wantWrong(t, s)
		wantWrong(t, api.Slot{Box: box})
		wantRight(t, api.Slot{Last: true, Box: box}, api.OK)
	}
}

func TestJ1SeveralFaults(t *testing.T) {
	for _, change := range lastChanges() {
		s := final()
		s.Lo = s.Hi + 1
		change(&s)
		wantWrong(t, s)
	}
	wantWrong(t, api.Slot{Box: 1, Lo: 2, Hi: 1})
}

func TestJ1RightAsOther(t *testing.T) {
	for _, s := range rightSlots() {
		if !otherRight(s) {
			t.Errorf("%v is not right in the other way", s)
		}
		wantRight(t, s, api.OK)
	}
	for _, s := range wrongSlots() {
		if otherRight(s) {
			t.Errorf("%v is right in the other way", s)
		}
		wantWrong(t, s)
	}
}

func TestJ1BytesOnward(t *testing.T) {
	wantBytes(t, onward(), row("\x00\x01\x02",
		"\x11\x12\x13\x14\x15\x16\x17\x18", "\x21\x22\x23\x24\x25\x26\x27\x28", "\x31\x32\x33\x34",
		"\x41\x42", "\x51\x52\x53\x54",
		"\x61\x62\x63\x64\x65\x66\x67\x68\x69\x6A\x6B\x6C\x6D\x6E\x6F\x70",
		"\x81\x82\x83\x84\x85\x86\x87\x88\x89\x8A\x8B\x8C\x8D\x8E\x8F\x90"))
}

func TestJ1BytesLast(t *testing.T) {
	wantBytes(t, final(), row("\x01\x01\x02",
		"\x11\x12\x13\x14\x15\x16\x17\x18", "\x21\x22\x23\x24\x25\x26\x27\x28", "\x31\x32\x33\x34"))
}

func TestJ1BytesMost(t *testing.T) {
	const ff4 = "\xFF\xFF\xFF\xFF"
	most := api.Slot{Next: 0xFFFF, Who: 0xFFFF, Epoch: math.MaxUint32, Lo: most64, Hi: most64, Delay: math.MaxUint32}
	for i := range 16 {
		most.Nonce[i], most.MAC[i] = 0xFF, 0xFF
	}
	times := ff4 + ff4 + ff4 + ff4 + ff4
	wantBytes(t, most, row("\x00\xFF\xFF", times, "\xFF\xFF", ff4, ff4+ff4+ff4+ff4, ff4+ff4+ff4+ff4))
	wantBytes(t, api.Slot{Last: true, Box: 0xFFFF, Lo: most64, Hi: most64, Delay: math.MaxUint32}, row("\x01\xFF\xFF", times))
}

func TestJ1BytesOfAll(t *testing.T) {
	for _, s := range rightSlots() {
		wantBytes(t, s, otherBytes(s))
	}
}

func TestJ1FirstByte(t *testing.T) {
	for _, s := range []api.Slot{{}, {Last: true}, onward(), final()} {
		b := otherBytes(s)
		for first := 2; first < 256; first++ {
			b[0] = byte(first)
			wantNoSlot(t, b)
		}
	}
}

func TestJ1LastBytes(t *testing.T) {
	for _, s := range rightSlots() {
		for at := 61; at < 64; at++ {
			for _, x := range []byte{1, 2, 0x80, 0xFF} {
				b := otherBytes(s)
				b[at] = x
				wantNoSlot(t, b)
			}
		}
	}
}

// A Box that is not of a slot's kind has no place in its bytes, nor has a Next: those are the bytes of a right slot.
func TestJ1BytesOfWrong(t *testing.T) {
	for _, s := range wrongSlots() {
		b := otherBytes(s)
		wantAsOther(t, b)
		s.Next, s.Box = 0, 0
		if !otherRight(s) {
			wantNoSlot(t, b)
		}
	}
}

func TestJ1BytesOfWrongTimes(t *testing.T) {
	for _, s := range []api.Slot{{}, {Last: true}, onward(), final()} {
		b := otherBytes(s)
		for i := range 8 { // one byte of Lo above that of Hi, all ahead of it the same
			c := b
			copy(c[3:3+i], c[11:11+i])
			c[3+i], c[11+i] = 0x90, 0x7F
			wantNoSlot(t, c)
			c[3+i], c[11+i] = 0x7F, 0x90
			wantAsOther(t, c)
		}
	}
}

func TestJ1BytesOfLastThatSaysMore(t *testing.T) {
	for _, s := range []api.Slot{{Last: true}, final()} {
		for at := 23; at < 61; at++ {
			for _, x := range []byte{1, 0x80, 0xFF} {
				b := otherBytes(s)
				b[at] = x
				wantNoSlot(t, b)
				b[0] = 0
				wantAsOther(t, b) // not Last it may say it
			}
		}
	}
}

// The same bytes are one slot or the other by the first of them.
func TestJ1Kind(t *testing.T) {
	b := otherBytes(final())
	b[0] = 0
	wantBytes(t, api.Slot{Next: 0x0102, Lo: final().Lo, Hi: final().Hi, Delay: final().Delay}, b)
}

func TestJ1EachBit(t *testing.T) {
	for _, s := range rightSlots() {
		b := otherBytes(s)
		for bit := range 512 {
			c := b
			c[bit/8] ^= 1 << (bit % 8)
			wantAsOther(t, c)
		}
	}
}

func TestJ1OwnBytes(t *testing.T) {
	seen := map[[64]byte]api.Slot{}
	for _, s := range rightSlots() {
		b, err := Encode(s)
		if other, ok := seen[b]; ok && other != s || err != api.OK {
			t.Errorf("%v and %v: % X, %v", s, other, b, err)
		}
		seen[b] = s
	}
	if len(seen) < 70 {
		t.Errorf("%d", len(seen))
	}
}

// anySlot makes one that is often right, and often wrong by little.
func anySlot(next func() uint64) api.Slot {
	few := func() uint64 { return next() >> (next() >> 58) & -(next() >> 40 & 1) }
	s := api.Slot{Last: next()>>40&1 == 1, Lo: few(), Hi: few(), Delay: uint32(few()), Box: api.Box(few())}
	if next()>>40&1 == 1 {
		s.Lo, s.Hi = min(s.Lo, s.Hi), max(s.Lo, s.Hi)
	}
	if s.Last != (next()>>40&7 == 0) {
		return s
	}
	s.Next, s.Who, s.Epoch = api.Addr(few()), api.Who(few()), uint32(few())
	binary.LittleEndian.PutUint64(s.Nonce[next()>>61:], few())
	binary.LittleEndian.PutUint64(s.MAC[next()>>61:], few())
	if next()>>40&1 == 1 {
		s.Box = 0
	}
	return s
}

func TestJ1AnySlots(t *testing.T) {
	next := random()
	var right, wrong int
	for range 20000 {
		s := anySlot(next)
		if otherRight(s) {
			right++
			wantBytes(t, s, otherBytes(s))
		} else {
			wrong++
			wantWrong(t, s)
		}
	}
	if right < 4000 || wrong < 4000 {
		t.Errorf("%d right, %d wrong", right, wrong)
	}
}

func TestJ1AnyBytes(t *testing.T) {
	next := random()
	right := 0
	for range 20000 {
		b := otherBytes(anySlot(next))
		for range next() >> 40 % 3 {
			b[next()>>58] = byte(next() >> 50)
		}
		wantAsOther(t, b)
		if _, ok := otherSlot(b); ok {
			right++
		}
	}
	if right < 4000 || right > 16000 {
		t.Errorf("%d right", right)
	}
}

// R1: what was handed in may be written over, and so may what was answered.
func TestJ1Owners(t *testing.T) {
	s := onward()
	b, _ := Encode(s)
	d, _ := Decode(b)
	s.Nonce[0], s.MAC[15] = 0xEE, 0xEE
	if b != otherBytes(onward()) {
		t.Errorf("% X", b)
	}
	pattern(b[:], 0)
	if d != onward() {
		t.Errorf("%v", d)
	}
	d.Nonce[0] = 0xEE
	wantBytes(t, onward(), otherBytes(onward()))
}

// R4: what was asked ahead, be it wrong, changes nothing.
func TestJ1Again(t *testing.T) {
	for range 3 {
		wantBytes(t, onward(), otherBytes(onward()))
		wantWrong(t, api.Slot{Lo: 1})
		wantNoSlot(t, [64]byte{2})
		wantBytes(t, final(), otherBytes(final()))
	}
}

// fields are where a packet's fields begin, with where it ends.
var fields = []int{0, 2, 6, 22, 38, 358, 614}

// somePacket says something everywhere: no two of its fields are the same bytes.
func somePacket() api.Packet {
	p := api.Packet{Who: 0x0102, Epoch: 0x11121314}
	pattern(p.Nonce[:], 0x21)
	pattern(p.MAC[:], 0x41)
	pattern(p.Head[:], 0x61)
	pattern(p.Body[:], 0x83)
	return p
}

func otherPack(p api.Packet) []byte {
	b := make([]byte, 614)
	binary.BigEndian.PutUint16(b[0:], uint16(p.Who))
	binary.BigEndian.PutUint32(b[2:], p.Epoch)
	copy(b[6:22], p.Nonce[:])
	copy(b[22:38], p.MAC[:])
	copy(b[38:358], p.Head[:])
	copy(b[358:614], p.Body[:])
	return b
}

func otherUnpack(b []byte) api.Packet {
	p := api.Packet{Who: api.Who(binary.BigEndian.Uint16(b)), Epoch: binary.BigEndian.Uint32(b[2:])}
	copy(p.Nonce[:], b[6:])
	copy(p.MAC[:], b[22:])
	copy(p.Head[:], b[38:])
	copy(p.Body[:], b[358:])
	return p
}

func wantPack(t *testing.T, p api.Packet, want []byte) {
	t.Helper()
	if b := Pack(p); !bytes.Equal(b, want) {
		t.Errorf("Pack: % X, want % X", b, want)
	}
}

func wantUnpack(t *testing.T, b []byte, want api.Packet, wantErr api.Errno) {
	t.Helper()
	if p, err := Unpack(b); p != want || err != wantErr {
		t.Errorf("Unpack of %d bytes: %v, %v, want %v, %v", len(b), p, err, want, wantErr)
	}
}

func anyBytes(next func() uint64, n int) []byte {
	b := make([]byte, n)
	for i := range b {
		b[i] = byte(next() >> 40)
	}
	return b
}

func TestJ2Pack(t *testing.T) {
	wantPack(t, api.Packet{}, make([]byte, 614))
	wantPack(t, somePacket(), otherPack(somePacket()))
	b := Pack(somePacket())
	for at, want := range map[int]byte{0: 1, 1: 2, 2: 0x11, 5: 0x14, 6: 0x21, 21: 0x30, 22: 0x41, 37: 0x50, 38: 0x61, 357: 0xA0, 358: 0x83, 613: 0x82} {
		if b[at] != want {
			t.Errorf("byte %d: %X, want %X", at, b[at], want)
		}
	}
}

func TestJ2EachField(t *testing.T) {
	var most api.Packet
	most.Who, most.Epoch = 0xFFFF, math.MaxUint32
	for _, field := range [][]byte{most.Nonce[:], most.MAC[:], most.Head[:], most.Body[:]} {
		for i := range field {
			field[i] = 0xFF
		}
	}
	wantPack(t, most, bytes.Repeat([]byte{0xFF}, 614))
	alone := []api.Packet{{Who: most.Who}, {Epoch: most.Epoch}, {Nonce: most.Nonce}, {MAC: most.MAC}, {Head: most.Head}, {Body: most.Body}}
	for i, p := range alone {
		want := make([]byte, 614)
		for at := fields[i]; at < fields[i+1]; at++ {
			want[at] = 0xFF
		}
		wantPack(t, p, want)
		wantUnpack(t, want, p, api.OK)
	}
}

// Each byte of a packet alone: it stands in one place, and comes back from it.
func TestJ2EachByte(t *testing.T) {
	for at := range 614 {
		for _, x := range []byte{1, 0x80, 0xFF} {
			b := make([]byte, 614)
			b[at] = x
			p := otherUnpack(b)
			wantUnpack(t, b, p, api.OK)
			wantPack(t, p, b)
		}
	}
}

func TestJ2Numbers(t *testing.T) {
	for _, n := range []uint32{0, 1, 0xFF, 0x100, 0x8000, 0xFFFF, 0x10000, 1 << 24, 1 << 31, math.MaxUint32} {
		p := api.Packet{Who: api.Who(n), Epoch: n}
		wantPack(t, p, otherPack(p))
		wantUnpack(t, otherPack(p), p, api.OK)
	}
}

func TestJ2There(t *testing.T) {
	wantUnpack(t, Pack(somePacket()), somePacket(), api.OK)
	wantUnpack(t, Pack(api.Packet{}), api.Packet{}, api.OK)
}

func TestJ2Short(t *testing.T) {
	wantUnpack(t, nil, api.Packet{}, api.ErrShort)
	b := otherPack(somePacket())
	for n := range 614 {
		wantUnpack(t, b[:n], api.Packet{}, api.ErrShort) // what stands behind the end is not asked
	}
}

func TestJ2Long(t *testing.T) {
	for _, more := range []int{1, 2, 63, 64, 613, 614, 615, 65536 - 614, 65536} {
		wantUnpack(t, append(otherPack(somePacket()), make([]byte, more)...), api.Packet{}, api.ErrForm)
		wantUnpack(t, make([]byte, 614+more), api.Packet{}, api.ErrForm)
	}
}

func TestJ2AnyBytes(t *testing.T) {
	next := random()
	for range 2000 {
		b := anyBytes(next, 614)
		p := otherUnpack(b)
		wantUnpack(t, b, p, api.OK)
		wantPack(t, p, b)
	}
}

// A packet says what it likes: what would be no slot is one in a packet's Head too.
func TestJ2WhateverItSays(t *testing.T) {
	p := somePacket()
	copy(p.Head[:], "\x02 no slot begins like this")
	wantUnpack(t, Pack(p), p, api.OK)
}

// R1: what is handed in stays, is not kept, and what is answered is the caller's.
func TestJ2HandedIn(t *testing.T) {
	for _, n := range []int{0, 1, 613, 614, 615} {
		all := make([]byte, 700)
		pattern(all, 7)
		was := slices.Clone(all)
		p, _ := Unpack(all[:n])
		if !bytes.Equal(all, was) {
			t.Errorf("%d bytes: changed to % X", n, all)
		}
		if n != 614 {
			continue
		}
		clear(all)
		if p != otherUnpack(was[:614]) {
			t.Errorf("%v", p)
		}
	}
}

func TestJ2Answered(t *testing.T) {
	p := somePacket()
	one, two := Pack(p), Pack(p)
	p.Nonce[0], p.Head[0], p.Body[0] = 0xEE, 0xEE, 0xEE
	if !bytes.Equal(one, otherPack(somePacket())) {
		t.Errorf("% X", one)
	}
	clear(one[:cap(one)])
	if !bytes.Equal(two, otherPack(somePacket())) {
		t.Errorf("% X", two)
	}
	wantPack(t, somePacket(), two)
}

// R4: what was asked ahead, be it wrong, changes nothing.
func TestJ2Again(t *testing.T) {
	for range 3 {
		wantUnpack(t, otherPack(somePacket()), somePacket(), api.OK)
		wantUnpack(t, make([]byte, 613), api.Packet{}, api.ErrShort)
		wantUnpack(t, make([]byte, 615), api.Packet{}, api.ErrForm)
		wantPack(t, somePacket(), otherPack(somePacket()))
	}
}
