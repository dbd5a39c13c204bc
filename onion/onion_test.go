package onion

import (
	"bytes"
	"crypto/sha256"
	"encoding/binary"
	"encoding/hex"
	"math"
	"slices"
	"strings"
	"testing"

	"hourglass/api"
	"hourglass/chacha"
	"hourglass/hmac"
	"hourglass/slot"
)

const most64 = math.MaxUint64

// random gives words that are the same in each run.
func random() func() uint64 {
	x := uint64(1)
	return func() uint64 {
		x = x*6364136223846793005 + 1442695040888963407
		return x ^ x>>29
	}
}

// pattern fills bytes, each with a number of its own as far as there are so many.
func pattern(b []byte, first int) {
	for i := range b {
		b[i] = byte(first + i)
	}
}

func fill(next func() uint64, b []byte) {
	for i := range b {
		b[i] = byte(next() >> 40)
	}
}

func someKey() (key api.Key) {
	pattern(key[:], 0x20)
	return key
}

// somePacket has no two bytes of a number the same; its MAC is that of nobody.
func somePacket() api.Packet {
	p := api.Packet{Who: 0x0102, Epoch: 0x11121314}
	pattern(p.Nonce[:], 0x21)
	pattern(p.MAC[:], 0x41)
	pattern(p.Head[:], 0x61)
	pattern(p.Body[:], 0x83)
	return p
}

func someBody() (body [256]byte) {
	pattern(body[:], 0x83)
	return body
}

func someHop(i int) Hop {
	h := Hop{Addr: api.Addr(0x0102 + i), Who: api.Who(0x1112 + i), Epoch: uint32(0x31323334 + i), Lo: uint64(0x5152535455565758 + i), Hi: uint64(0x6162636465666768 + i), Delay: uint32(0x71727374 + i)}
	pattern(h.Key[:], 0x20+32*i)
	pattern(h.Nonce[:], 0x41+16*i)
	return h
}

// someHops are hops of which no two are alike in anything.
func someHops(n int) []Hop {
	var hops []Hop
	for i := range n {
		hops = append(hops, someHop(i))
	}
	return hops
}

func anyHop(next func() uint64) Hop {
	few := func() uint64 { return next() >> (next() >> 58) & -(next() >> 40 & 1) }
	lo, hi := few(), few()
	h := Hop{Addr: api.Addr(few()), Who: api.Who(few()), Epoch: uint32(few()), Lo: min(lo, hi), Hi: max(lo, hi), Delay: uint32(few())}
	fill(next, h.Key[:])
	fill(next, h.Nonce[:])
	return h
}

// otherKey is what the chapter makes of a key, by hmac called as it says.
func otherKey(key api.Key, label string, epoch uint32, nonce api.Nonce) api.Key {
	return hmac.Derive(key, label, binary.BigEndian.AppendUint32(nil, epoch), nonce[:])
}

func otherTag(key api.Key, epoch uint32, nonce api.Nonce) (tag api.Tag) {
	whole := otherKey(key, "tag", epoch, nonce)
	copy(tag[:], whole[:])
	return tag
}

func otherMAC(key api.Key, p api.Packet) api.MAC {
	who := binary.BigEndian.AppendUint16(nil, uint16(p.Who))
	epoch := binary.BigEndian.AppendUint32(nil, p.Epoch)
	return hmac.Short(otherKey(key, "mac", p.Epoch, p.Nonce), who, epoch, p.Nonce[:], p.Head[:], p.Body[:])
}

func otherHeadStream(key api.Key, epoch uint32, nonce api.Nonce) []byte {
	return chacha.Stream(otherKey(key, "head", epoch, nonce), [12]byte{}, 384)
}

func otherBodyStream(key api.Key, epoch uint32, nonce api.Nonce) []byte {
	return chacha.Stream(otherKey(key, "body", epoch, nonce), [12]byte{}, 256)
}

// hide tells the packet that shows, once xored, this head and this body, with the MAC of the key.
func hide(key api.Key, who api.Who, epoch uint32, nonce api.Nonce, head [320]byte, body [256]byte) api.Packet {
	p := api.Packet{Who: who, Epoch: epoch, Nonce: nonce}
	for i, x := range otherHeadStream(key, epoch, nonce)[:320] {
		p.Head[i] = head[i] ^ x
	}
	for i, x := range otherBodyStream(key, epoch, nonce) {
		p.Body[i] = body[i] ^ x
	}
	p.MAC = otherMAC(key, p)
	return p
}

// hideSlot is hide with 64 bytes ahead of a head of a pattern.
func hideSlot(key api.Key, told [64]byte) api.Packet {
	p := somePacket()
	head := p.Head
	copy(head[:], told[:])
	return hide(key, p.Who, p.Epoch, p.Nonce, head, p.Body)
}

func encoded(t *testing.T, s api.Slot) [64]byte {
	t.Helper()
	b, err := slot.Encode(s)
	if err != api.OK {
		t.Fatalf("%v: %v", s, err)
	}
	return b
}

// shown is a packet's Head with 64 bytes of 0 behind, and its Body, xored one byte behind the other.
func shown(key api.Key, p api.Packet) (head [384]byte, body [256]byte) {
	copy(head[:], p.Head[:])
	for i, x := range otherHeadStream(key, p.Epoch, p.Nonce) {
		head[i] ^= x
	}
	for i, x := range otherBodyStream(key, p.Epoch, p.Nonce) {
		body[i] = p.Body[i] ^ x
	}
	return head, body
}

// otherPeel is what the chapter says of Peel once more.
func otherPeel(key api.Key, p api.Packet) (api.Slot, api.Packet, api.Errno) {
	if otherMAC(key, p) != p.MAC {
		return api.Slot{}, api.Packet{}, api.ErrMAC
	}
	head, body := shown(key, p)
	s, err := slot.Decode([64]byte(head[:64]))
	if err != api.OK {
		return api.Slot{}, api.Packet{}, err
	}
	next := api.Packet{Head: [320]byte(head[64:]), Body: body}
	if !s.Last {
		next.Who, next.Epoch, next.Nonce, next.MAC = s.Who, s.Epoch, s.Nonce, s.MAC
	}
	return s, next, api.OK
}

func wantPeel(t *testing.T, key api.Key, p api.Packet, want api.Slot, wantNext api.Packet, wantErr api.Errno) {
	t.Helper()
	s, next, err := Peel(key, p)
	if s != want || next != wantNext || err != wantErr {
		t.Errorf("Peel: %v, %v, %v, want %v, %v, %v", s, next, err, want, wantNext, wantErr)
	}
}

// wantNoPeel: Peel answers this error alone.
func wantNoPeel(t *testing.T, key api.Key, p api.Packet, want api.Errno) {
	t.Helper()
	wantPeel(t, key, p, api.Slot{}, api.Packet{}, want)
}

func wantPeelAsOther(t *testing.T, key api.Key, p api.Packet) {
	t.Helper()
	s, next, err := otherPeel(key, p)
	wantPeel(t, key, p, s, next, err)
}

func bits[T ~[16]byte | ~[32]byte](a T) func(func(T) bool) {
	return func(yield func(T) bool) {
		for bit := range 8 * len(a) {
			b := a
			b[bit/8] ^= 1 << (bit % 8)
			if !yield(b) {
				return
			}
		}
	}
}

// packetBits are packets that differ from p in one bit of Who, Epoch, Nonce, Head or Body (all but the MAC).
func packetBits(p api.Packet) []api.Packet {
	var all []api.Packet
	packed := slot.Pack(p)
	for bit := range 8 * len(packed) {
		if at := bit / 8; at >= 22 && at < 38 {
			continue
		}
		b := bytes.Clone(packed)
		b[bit/8] ^= 1 << (bit % 8)
		other, _ := slot.Unpack(b)
		all = append(all, other)
	}
	return all
}

func edgeEpochs() []uint32 {
	return []uint32{0, 1, 0xFF, 0x100, 0xFFFF, 0x10000, 0x01020304, 0x04030201, 0xF1F2F3F4, 1 << 24, math.MaxInt32, 1 << 31, math.MaxUint32 - 1, math.MaxUint32}
}

func edgeKeys() []api.Key {
	one, other := someKey(), api.Key{}
	for i := range other {
		other[i] = 0xFF
	}
	return []api.Key{{}, {0: 1}, {31: 1}, {0: 0x80}, one, other}
}

func edgeNonces() []api.Nonce {
	one, other := somePacket().Nonce, api.Nonce{}
	for i := range other {
		other[i] = 0xFF
	}
	return []api.Nonce{{}, {0: 1}, {15: 1}, one, other}
}

func hexed(b []byte) string { return strings.ToUpper(hex.EncodeToString(b)) }

// The sums here and in TestK3Known were worked out by another program, by the chapters alone.
func TestK1Known(t *testing.T) {
	h := someHop(0)
	for _, x := range []struct {
		tag  api.Tag
		want string
	}{
		{Tag(h.Key, h.Epoch, h.Nonce), "2DC044959B813BCAC965B42D74B5544E"},
		{Tag(api.Key{}, 0, api.Nonce{}), "E2296C691ACC5CD2243599858C67C60D"},
		{api.Tag(MAC(api.Key{}, api.Packet{})), "693511F1842D0D03DAE2CEFA958839ED"},
		{api.Tag(MAC(someKey(), somePacket())), "62E9A6320A7C560FADADCC5C1D1413A8"},
	} {
		if got := hexed(x.tag[:]); got != x.want {
			t.Errorf("%s, want %s", got, x.want)
		}
	}
}

func TestK1Tag(t *testing.T) {
	for _, key := range edgeKeys() {
		for _, epoch := range edgeEpochs() {
			for _, nonce := range edgeNonces() {
				if got, want := Tag(key, epoch, nonce), otherTag(key, epoch, nonce); got != want {
					t.Errorf("Tag(%X, %X, %X): %X, want %X", key, epoch, nonce, got, want)
				}
			}
		}
	}
}

func TestK1MAC(t *testing.T) {
	for _, p := range []api.Packet{{}, somePacket(), {Who: 1}, {Who: 0x100}, {Who: 0xFFFF}, {Head: [320]byte{319: 1}}, {Body: [256]byte{1}}} {
		for _, key := range edgeKeys() {
			for _, epoch := range edgeEpochs() {
				p.Epoch = epoch
				if got, want := MAC(key, p), otherMAC(key, p); got != want {
					t.Errorf("MAC(%X, %v): %X, want %X", key, p, got, want)
				}
			}
		}
	}
	p := somePacket()
	for _, nonce := range edgeNonces() {
		p.Nonce = nonce
		if got, want := MAC(someKey(), p), otherMAC(someKey(), p); got != want {
			t.Errorf("MAC(%v): %X, want %X", p, got, want)
		}
	}
}

// wantOther asks that something is none of those that came ahead.
func wantOther[T comparable](t *testing.T, seen map[T]int, what string, got T) {
	t.Helper()
	if seen[got] > 0 {
		t.Errorf("%s: %v was there already", what, got)
	}
	seen[got]++
}

// Each bit, those of the first and of the last byte among them, makes another tag.
func TestK1TagEachBit(t *testing.T) {
	key, p, seen := someKey(), somePacket(), map[api.Tag]int{}
	wantOther(t, seen, "as it is", Tag(key, p.Epoch, p.Nonce))
	for other := range bits(key) {
		wantOther(t, seen, "key", Tag(other, p.Epoch, p.Nonce))
	}
	for bit := range 32 {
		wantOther(t, seen, "epoch", Tag(key, p.Epoch^1<<bit, p.Nonce))
	}
	for other := range bits(p.Nonce) {
		wantOther(t, seen, "nonce", Tag(key, p.Epoch, other))
	}
}

func TestK1MACEachBit(t *testing.T) {
	key, p, seen := someKey(), somePacket(), map[api.MAC]int{}
	wantOther(t, seen, "as it is", MAC(key, p))
	for other := range bits(key) {
		wantOther(t, seen, "key", MAC(other, p))
	}
	others := packetBits(p)
	if len(others) != 8*(614-16) {
		t.Fatalf("%d packets", len(others))
	}
	for _, other := range others {
		wantOther(t, seen, "packet", MAC(key, other))
	}
}

// What stands at the end of one thing and what at the begin of the next are not the same.
func TestK1MACPlaces(t *testing.T) {
	seen := map[api.MAC]int{}
	for at := range 614 {
		if at >= 22 && at < 38 {
			continue
		}
		b := make([]byte, 614)
		b[at] = 1
		p, _ := slot.Unpack(b)
		wantOther(t, seen, "one byte", MAC(api.Key{}, p))
	}
}

func TestK1OwnMAC(t *testing.T) {
	key, p := someKey(), somePacket()
	want := otherMAC(key, p)
	p.MAC = api.MAC{}
	all := []api.Packet{p}
	for other := range bits(somePacket().MAC) {
		p.MAC = other
		all = append(all, p)
	}
	p.MAC = want
	for _, p := range append(all, p) {
		if got := MAC(key, p); got != want {
			t.Errorf("MAC of a packet with MAC %X: %X, want %X", p.MAC, got, want)
		}
	}
}

// A tag and a MAC are of keys of their own: none is what the key itself makes.
func TestK1Labels(t *testing.T) {
	key, p, seen := someKey(), somePacket(), map[api.Key]int{}
	for _, label := range []string{"", "head", "body", "mac", "tag"} {
		wantOther(t, seen, label, otherKey(key, label, p.Epoch, p.Nonce))
	}
	whole := otherKey(key, "tag", p.Epoch, p.Nonce)
	if got := Tag(key, p.Epoch, p.Nonce); !bytes.Equal(got[:], whole[:16]) {
		t.Errorf("%X, want the first sixteen of %X", got, whole)
	}
}

func onward() api.Slot {
	s := api.Slot{Next: 0x0102, Lo: 0x1112131415161718, Hi: 0x2122232425262728, Delay: 0x31323334, Who: 0x4142, Epoch: 0x51525354}
	pattern(s.Nonce[:], 0x61)
	pattern(s.MAC[:], 0x81)
	return s
}

func final() api.Slot {
	return api.Slot{Last: true, Box: 0x0102, Lo: 0x1112131415161718, Hi: 0x2122232425262728, Delay: 0x31323334}
}

func rightSlots() []api.Slot {
	return []api.Slot{
		{}, {Last: true}, onward(), final(),
		{Lo: most64, Hi: most64}, {Hi: most64}, {Last: true, Lo: most64, Hi: most64}, {Last: true, Box: 0xFFFF, Delay: math.MaxUint32},
		{Next: 0xFFFF}, {Who: 0xFFFF}, {Epoch: math.MaxUint32}, {Nonce: api.Nonce{15: 1}}, {MAC: api.MAC{15: 1}}, {MAC: api.MAC{1}},
	}
}

// noSlots are 64 bytes that are those of no right slot.
func noSlots(t *testing.T) [][64]byte {
	var all [][64]byte
	change := func(s api.Slot, at int, x byte) {
		b := encoded(t, s)
		b[at] = x
		all = append(all, b)
	}
	for _, s := range []api.Slot{{}, {Last: true}, onward(), final()} {
		for _, x := range []byte{2, 0x80, 0xFF} {
			change(s, 0, x)
		}
		for at := 61; at < 64; at++ {
			change(s, at, 1)
		}
		change(s, 3, 0xFF) // Lo above Hi
	}
	change(api.Slot{Lo: 7, Hi: 7}, 18, 6)
	for at := 23; at < 61; at++ {
		change(final(), at, 1)
	}
	return all
}

func TestK2OtherMAC(t *testing.T) {
	key := someKey()
	for _, s := range []api.Slot{onward(), final()} {
		p := hideSlot(key, encoded(t, s))
		for mac := range bits(p.MAC) {
			other := p
			other.MAC = mac
			wantNoPeel(t, key, other, api.ErrMAC)
		}
		other := p
		other.MAC = api.MAC{}
		wantNoPeel(t, key, other, api.ErrMAC)
		slices.Reverse(p.MAC[:])
		wantNoPeel(t, key, p, api.ErrMAC)
	}
}

func TestK2OtherKey(t *testing.T) {
	key := someKey()
	p := hideSlot(key, encoded(t, onward()))
	for other := range bits(key) {
		wantNoPeel(t, other, p, api.ErrMAC)
	}
	wantNoPeel(t, api.Key{}, p, api.ErrMAC)
	wantNoPeel(t, otherKey(key, "mac", p.Epoch, p.Nonce), p, api.ErrMAC)
}

// What a packet says is under its MAC, whole.
func TestK2OtherPacket(t *testing.T) {
	key := someKey()
	for _, other := range packetBits(hideSlot(key, encoded(t, onward()))) {
		wantNoPeel(t, key, other, api.ErrMAC)
	}
	wantNoPeel(t, key, somePacket(), api.ErrMAC)
	wantNoPeel(t, api.Key{}, api.Packet{}, api.ErrMAC)
}

func TestK2NoSlot(t *testing.T) {
	key := someKey()
	for _, told := range noSlots(t) {
		_, want := slot.Decode(told)
		if want != api.ErrForm {
			t.Fatalf("Decode(% X): %v", told, want)
		}
		p := hideSlot(key, told)
		wantNoPeel(t, key, p, want)
		p.MAC[15] ^= 1 // that comes first
		wantNoPeel(t, key, p, api.ErrMAC)
	}
}

// A packet that says nothing else than the MAC of the key is no slot but by luck.
func TestK2AnyHead(t *testing.T) {
	next := random()
	for range 200 {
		var key api.Key
		p := api.Packet{Who: api.Who(next()), Epoch: uint32(next())}
		for _, b := range [][]byte{key[:], p.Nonce[:], p.Head[:], p.Body[:]} {
			fill(next, b)
		}
		p.MAC = otherMAC(key, p)
		wantNoPeel(t, key, p, api.ErrForm)
	}
}

// wantPeeled holds what is peeled against what was hidden, byte by byte.
func wantPeeled(t *testing.T, key api.Key, p api.Packet, want api.Slot, head [320]byte, body [256]byte) {
	t.Helper()
	s, next, err := Peel(key, p)
	if s != want || err != api.OK {
		t.Errorf("Peel: %v, %v, want %v", s, err, want)
	}
	if !bytes.Equal(next.Head[:256], head[64:]) {
		t.Errorf("%v: next Head % X, want % X", want, next.Head[:256], head[64:])
	}
	if behind := otherHeadStream(key, p.Epoch, p.Nonce)[320:]; !bytes.Equal(next.Head[256:], behind) {
		t.Errorf("%v: at the end of the next Head % X, want what the bytes of 0 become, % X", want, next.Head[256:], behind)
	}
	if next.Body != body {
		t.Errorf("%v: next Body % X, want % X", want, next.Body, body)
	}
	if next.Who != want.Who || next.Epoch != want.Epoch || next.Nonce != want.Nonce || next.MAC != want.MAC {
		t.Errorf("%v: next %X, %X, %X, %X", want, next.Who, next.Epoch, next.Nonce, next.MAC)
	}
}

func TestK2Right(t *testing.T) {
	for _, key := range edgeKeys() {
		for _, s := range rightSlots() {
			told := encoded(t, s)
			was := somePacket()
			copy(was.Head[:], told[:])
			wantPeeled(t, key, hideSlot(key, told), s, was.Head, was.Body)
		}
	}
}

func TestK2Last(t *testing.T) {
	key := someKey()
	s, next, err := Peel(key, hideSlot(key, encoded(t, final())))
	if s != final() || err != api.OK {
		t.Errorf("%v, %v", s, err)
	}
	if next.Who != 0 || next.Epoch != 0 || next.Nonce != (api.Nonce{}) || next.MAC != (api.MAC{}) || next.Body != somePacket().Body {
		t.Errorf("%v", next)
	}
}

// Whatever a packet says of itself: the streams are of its Epoch and Nonce, and Who is under the MAC alone.
func TestK2OfEach(t *testing.T) {
	key, told := someKey(), encoded(t, onward())
	for _, epoch := range edgeEpochs() {
		for _, nonce := range edgeNonces() {
			for _, who := range []api.Who{0, 1, 0x100, 0xFFFF} {
				was := somePacket()
				copy(was.Head[:], told[:])
				p := hide(key, who, epoch, nonce, was.Head, was.Body)
				wantPeeled(t, key, p, onward(), was.Head, was.Body)
				wantPeelAsOther(t, key, p)
			}
		}
	}
}

// R4 and R1: the same packet is peeled twice to the same, and stays.
func TestK2Again(t *testing.T) {
	key := someKey()
	p := hideSlot(key, encoded(t, onward()))
	was := p
	for range 3 {
		wantPeelAsOther(t, key, p)
		wantNoPeel(t, api.Key{}, p, api.ErrMAC)
		if p != was {
			t.Fatal("the packet changed")
		}
	}
}

// otherBuild makes the last one's packet first, its end taken out of a packet of noughts that goes along the hops ahead.
func otherBuild(t *testing.T, hops []Hop, box api.Box, body [256]byte) api.Packet {
	t.Helper()
	n := len(hops)
	bodies := make([][256]byte, n)
	for i := n - 1; i >= 0; i-- {
		for j, x := range otherBodyStream(hops[i].Key, hops[i].Epoch, hops[i].Nonce) {
			body[j] ^= x
		}
		bodies[i] = body
	}
	h := hops[n-1]
	var head [320]byte
	told := encoded(t, api.Slot{Last: true, Box: box, Lo: h.Lo, Hi: h.Hi, Delay: h.Delay})
	copy(head[:], told[:])
	stream := otherHeadStream(h.Key, h.Epoch, h.Nonce)
	for i := range 320 - 64*(n-1) {
		head[i] ^= stream[i]
	}
	end := gone(hops[:n-1])
	copy(head[320-64*(n-1):], end[320-64*(n-1):])
	p := otherSealed(h, head, bodies[n-1])
	for i := n - 2; i >= 0; i-- {
		h, behind := hops[i], hops[i+1]
		told := encoded(t, api.Slot{Next: behind.Addr, Lo: h.Lo, Hi: h.Hi, Delay: h.Delay, Who: behind.Who, Epoch: behind.Epoch, Nonce: behind.Nonce, MAC: p.MAC})
		copy(head[64:], p.Head[:256])
		copy(head[:], told[:])
		for j, x := range otherHeadStream(h.Key, h.Epoch, h.Nonce)[:320] {
			head[j] ^= x
		}
		p = otherSealed(h, head, bodies[i])
	}
	return p
}

func otherSealed(h Hop, head [320]byte, body [256]byte) api.Packet {
	p := api.Packet{Who: h.Who, Epoch: h.Epoch, Nonce: h.Nonce, Head: head, Body: body}
	p.MAC = otherMAC(h.Key, p)
	return p
}

// gone is a Head of noughts behind some hops: at its end stands what they make of the bytes of 0 that each puts behind.
func gone(hops []Hop) [320]byte {
	var p api.Packet
	for _, h := range hops {
		p.Epoch, p.Nonce = h.Epoch, h.Nonce
		head, _ := shown(h.Key, p)
		p.Head = [320]byte(head[64:])
	}
	return p.Head
}

func build(t *testing.T, hops []Hop, box api.Box, body [256]byte) api.Packet {
	t.Helper()
	p, err := Build(hops, box, body)
	if err != api.OK {
		t.Fatalf("Build of %v: %v", hops, err)
	}
	return p
}

func wantNoBuild(t *testing.T, hops []Hop) {
	t.Helper()
	if p, err := Build(hops, 77, someBody()); p != (api.Packet{}) || err != api.ErrArg {
		t.Errorf("Build of %v: %v, %v, want ErrArg alone", hops, p, err)
	}
}

// wantBuilt holds all that the chapter says of a packet that is built against what comes out of it.
func wantBuilt(t *testing.T, hops []Hop, box api.Box, body [256]byte) {
	t.Helper()
	p := build(t, hops, box, body)
	if want := otherBuild(t, hops, box, body); p != want {
		t.Errorf("Build of %v: %v, want %v", hops, p, want)
	}
	for i, h := range hops {
		if p.Who != h.Who || p.Epoch != h.Epoch || p.Nonce != h.Nonce || p.MAC != otherMAC(h.Key, p) {
			t.Errorf("hop %d of %v: packet %X, %X, %X, %X", i, hops, p.Who, p.Epoch, p.Nonce, p.MAC)
		}
		want := api.Slot{Last: true, Box: box}
		s, next, err := Peel(h.Key, p)
		if i < len(hops)-1 {
			behind := hops[i+1]
			want = api.Slot{Next: behind.Addr, Who: behind.Who, Epoch: behind.Epoch, Nonce: behind.Nonce, MAC: otherMAC(behind.Key, next)}
		} else {
			wantEnd(t, hops, p)
		}
		want.Lo, want.Hi, want.Delay = h.Lo, h.Hi, h.Delay
		if s != want || err != api.OK {
			t.Errorf("hop %d of %v: %v, %v, want %v", i, hops, s, err, want)
		}
		p = next
	}
	if p.Body != body || p.Who != 0 || p.Epoch != 0 || p.Nonce != (api.Nonce{}) || p.MAC != (api.MAC{}) {
		t.Errorf("%v: at the end %v", hops, p)
	}
}

// wantEnd: behind the last one's slot stand bytes of 0, and behind these what the hops ahead made.
func wantEnd(t *testing.T, hops []Hop, p api.Packet) {
	t.Helper()
	h := hops[len(hops)-1]
	head, _ := shown(h.Key, p)
	noughts := 256 - 64*(len(hops)-1)
	if behind := head[64 : 64+noughts]; !bytes.Equal(behind, make([]byte, noughts)) {
		t.Errorf("%d hops: behind the last slot % X, want %d bytes of 0", len(hops), behind, noughts)
	}
	from := 64 + noughts
	if want := gone(hops[:len(hops)-1]); !bytes.Equal(p.Head[from:], want[from:]) {
		t.Errorf("%d hops: at the end of the last Head % X, want % X", len(hops), p.Head[from:], want[from:])
	}
}

func TestK3Known(t *testing.T) {
	for i, x := range []struct{ mac, sum string }{
		{"E2F6DC8C30501E31A21DC2FB7B1947B0", "0794F86B7BBBDC7CE008725BF83D2DC02E546221D6B5D42E3059D0C6D92A79B1"},
		{"B28495B6C3365AF2B9AA9A3A6CE31FCE", "F2E98925257549B2DC0909FF45B4D85BF5FE0395904478CCC8F9B8AB6E5D0D06"},
		{"316BE4E29E0210F8388A4751B6367D48", "B45FC107FC706E15D7730F0EA6404919F6C340B074546993D34625799A1850DA"},
		{"517F22348B8B1AEDD5E04B1B13D06A23", "AAF78638F2E6FF0C4FEA459B4F0CCD11A8AE49146E428D604C54631EB2F6EC26"},
		{"1FC377A34D81CEFDCCE3072B0920D62A", "4BD4DF5954C54155602F1B1DEEB26A011A32F55F0D06333C6578467788172EA2"},
	} {
		p := build(t, someHops(i+1), 0x8182, someBody())
		sum := sha256.Sum256(slot.Pack(p))
		if hexed(p.MAC[:]) != x.mac || hexed(sum[:]) != x.sum {
			t.Errorf("%d hops: MAC %X, sum %X, want %s, %s", i+1, p.MAC, sum, x.mac, x.sum)
		}
	}
}

func TestK3HowMany(t *testing.T) {
	wantNoBuild(t, nil)
	wantNoBuild(t, []Hop{})
	for n := 1; n <= 5; n++ {
		build(t, someHops(n), 77, someBody())
		build(t, make([]Hop, n), 0, [256]byte{})
	}
	for _, n := range []int{6, 7, 10, 100, 1000} {
		wantNoBuild(t, someHops(n))
		wantNoBuild(t, make([]Hop, n))
	}
}

func TestK3Times(t *testing.T) {
	for n := 1; n <= 5; n++ {
		for at := range n {
			hops := someHops(n)
			for _, times := range [][2]uint64{{1, 0}, {most64, 0}, {most64, most64 - 1}, {1 << 63, 1<<63 - 1}, {1 << 63, 1}, {256, 255}, {1 << 32, 0}} {
				hops[at].Lo, hops[at].Hi = times[0], times[1]
				wantNoBuild(t, hops)
			}
			for _, times := range [][2]uint64{{0, 0}, {1, 1}, {0, 1}, {most64, most64}, {0, most64}, {1 << 63, 1 << 63}, {1<<63 - 1, 1 << 63}} {
				hops[at].Lo, hops[at].Hi = times[0], times[1]
				wantBuilt(t, hops, 77, someBody())
			}
		}
	}
	hops := someHops(6)
	hops[5].Lo, hops[5].Hi = 1, 0
	wantNoBuild(t, hops)
	wantBuilt(t, hops[:5], 77, someBody()) // the hop behind the end is not one of them
}

func TestK3Built(t *testing.T) {
	for n := 1; n <= 5; n++ {
		for _, box := range []api.Box{0, 1, 0x100, 0x8182, 0xFFFF} {
			wantBuilt(t, someHops(n), box, someBody())
			wantBuilt(t, make([]Hop, n), box, [256]byte{})
		}
	}
}

// A way may have one node, key and nonce twice: nothing is told apart but by its place.
func TestK3SameHops(t *testing.T) {
	for n := 1; n <= 5; n++ {
		for i := range n {
			hops := someHops(n)
			for j := range hops {
				hops[j] = hops[i]
			}
			wantBuilt(t, hops, 5, someBody())
		}
	}
}

func TestK3AnyHops(t *testing.T) {
	next := random()
	for range 200 {
		hops := make([]Hop, 1+next()>>40%5)
		for i := range hops {
			hops[i] = anyHop(next)
		}
		var body [256]byte
		fill(next, body[:])
		wantBuilt(t, hops, api.Box(next()), body)
	}
}

// On each thing of each hop the packet hangs, but for the first one's Addr, that no slot tells.
func TestK3EachThing(t *testing.T) {
	changes := []func(*Hop){
		func(h *Hop) { h.Who ^= 0x8001 },
		func(h *Hop) { h.Key[0] ^= 1 },
		func(h *Hop) { h.Key[31] ^= 1 },
		func(h *Hop) { h.Epoch ^= 0x80000001 },
		func(h *Hop) { h.Nonce[0] ^= 1 },
		func(h *Hop) { h.Nonce[15] ^= 1 },
		func(h *Hop) { h.Lo ^= 1 },
		func(h *Hop) { h.Hi ^= 1 << 63 },
		func(h *Hop) { h.Delay ^= 0x80000001 },
		func(h *Hop) { h.Addr ^= 0x8001 },
	}
	seen := map[api.Packet]int{}
	for at := range 5 {
		for i, change := range changes {
			hops := someHops(5)
			change(&hops[at])
			wantBuilt(t, hops, 77, someBody())
			if at == 0 && i == len(changes)-1 {
				continue // where the first hop is, its packet does not say
			}
			wantOther(t, seen, "changed", build(t, hops, 77, someBody()))
		}
	}
	wantOther(t, seen, "as it is", build(t, someHops(5), 77, someBody()))
	wantOther(t, seen, "another box", build(t, someHops(5), 78, someBody()))
	hops := someHops(5)
	hops[0].Addr = 0
	if build(t, hops, 77, someBody()) != build(t, someHops(5), 77, someBody()) {
		t.Error("the packet says where its first hop is")
	}
}

func TestK3EachByteOfBody(t *testing.T) {
	hops := someHops(3)
	for at := range 256 {
		body := someBody()
		body[at] ^= 0xFF
		wantBuilt(t, hops, 77, body)
	}
}

// A packet is for its hop: none of the others peels it.
func TestK3OtherHops(t *testing.T) {
	for n := 1; n <= 5; n++ {
		hops := someHops(n)
		p := build(t, hops, 77, someBody())
		for i, h := range hops {
			for j, other := range someHops(5) {
				if j != i {
					wantNoPeel(t, other.Key, p, api.ErrMAC)
				}
			}
			_, p, _ = Peel(h.Key, p)
		}
		for _, h := range hops {
			wantNoPeel(t, h.Key, p, api.ErrMAC) // at the end is no packet any more
		}
	}
}

// One bit that is changed on the way is told at the next hop.
func TestK3Changed(t *testing.T) {
	hops := someHops(5)
	p := build(t, hops, 77, someBody())
	for _, h := range hops {
		for i, other := range packetBits(p) {
			if i%97 == 0 {
				wantNoPeel(t, h.Key, other, api.ErrMAC)
			}
		}
		_, p, _ = Peel(h.Key, p)
	}
}

// R1: the hops stay, with the room behind, and are not kept; the body stays.
func TestK3HandedIn(t *testing.T) {
	for n := range 7 {
		all := someHops(9)
		body := someBody()
		p, err := Build(all[:n], 77, body)
		if !slices.Equal(all, someHops(9)) || body != someBody() {
			t.Errorf("%d hops: changed to %v, %v", n, all, body)
		}
		clear(all)
		clear(body[:])
		if n < 1 || n > 5 {
			wantNoBuild(t, someHops(n))
			continue
		}
		if p != otherBuild(t, someHops(n), 77, someBody()) || err != api.OK {
			t.Errorf("%d hops: %v, %v", n, p, err)
		}
	}
}

// R4: the same hops are the same packet, whatever was asked ahead.
func TestK3Again(t *testing.T) {
	for n := 1; n <= 5; n++ {
		first := build(t, someHops(n), 77, someBody())
		for range 3 {
			wantNoBuild(t, nil)
			wantNoBuild(t, someHops(6))
			if build(t, someHops(n), 77, someBody()) != first {
				t.Errorf("%d hops: another packet", n)
			}
		}
	}
}
