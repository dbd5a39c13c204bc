package hmac

import (
	"bytes"
	libhmac "crypto/hmac"
	"crypto/sha256"
	"encoding/binary"
	"encoding/hex"
	"strconv"
	"testing"

	"hourglass/api"
)

// some tells n bytes of which no two blocks are alike.
func some(n int) []byte {
	b := make([]byte, n)
	x := uint32(n) + 1
	for i := range b {
		x = x*1664525 + 1013904223
		b[i] = byte(x >> 24)
	}
	return b
}

// rising is the key 00 01 02 .. of n bytes.
func rising(n int) []byte {
	b := make([]byte, n)
	for i := range b {
		b[i] = byte(i)
	}
	return b
}

func fromHex(t *testing.T, text string) (mac [32]byte) {
	t.Helper()
	b, err := hex.DecodeString(text)
	if err != nil || copy(mac[:], b) != 32 || len(b) != 32 {
		t.Fatalf("%s: not a MAC", text)
	}
	return mac
}

// libMAC is the library's HMAC, as what a MAC is held against.
func libMAC(key, all []byte) [32]byte {
	h := libhmac.New(sha256.New, key)
	h.Write(all)
	return [32]byte(h.Sum(nil))
}

// measured is what Derive makes the MAC of, said once more.
func measured(label string, parts ...[]byte) []byte {
	all := binary.BigEndian.AppendUint32(nil, uint32(len(label)))
	all = append(all, label...)
	for _, part := range parts {
		all = binary.BigEndian.AppendUint32(all, uint32(len(part)))
		all = append(all, part...)
	}
	return all
}

func cut(b []byte, size int) [][]byte {
	var parts [][]byte
	for len(b) > 0 {
		n := min(size, len(b))
		parts = append(parts, b[:n])
		b = b[n:]
	}
	return parts
}

// withRoom tells a copy of bytes, with marked room behind that nobody may write into.
func withRoom(b []byte) []byte {
	all := append(bytes.Clone(b), bytes.Repeat([]byte{0xEE}, 200)...)
	return all[:len(b)]
}

// wantUntouched asks that bytes of withRoom are as they were, and so is the room behind.
func wantUntouched(t *testing.T, what string, b, was []byte) {
	t.Helper()
	room := b[len(b):cap(b)][:200]
	if !bytes.Equal(b, was) || !bytes.Equal(room, bytes.Repeat([]byte{0xEE}, 200)) {
		t.Errorf("%s: written over", what)
	}
}

func same(t *testing.T, what string, got, want [32]byte) {
	t.Helper()
	if got != want {
		t.Errorf("%s: %X, want %X", what, got, want)
	}
}

// TestD1Known has the chapter's example ahead, then those of RFC 4231 (but the one that cuts its MAC), then keys at the edges of a block.
func TestD1Known(t *testing.T) {
	for _, x := range []struct {
		key       []byte
		text, mac string
	}{
		{bytes.Repeat([]byte{0x0B}, 20), "Hi There", "B0344C61D8DB38535CA8AFCEAF0BF12B881DC200C9833DA726E9376C2E32CFF7"},
		{[]byte("Jefe"), "what do ya want for nothing?", "5BDCC146BF60754E6A042426089575C75A003F089D2739839DEC58B964EC3843"},
		{bytes.Repeat([]byte{0xAA}, 20), string(bytes.Repeat([]byte{0xDD}, 50)), "773EA91E36800E46854DB8EBD09181A72959098B3EF8C122D9635514CED565FE"},
		{rising(26)[1:], string(bytes.Repeat([]byte{0xCD}, 50)), "82558A389A443C0EA4CC819899F2083A85F0FAA3E578F8077A2E3FF46729665B"},
		{bytes.Repeat([]byte{0xAA}, 131), "Test Using Larger Than Block-Size Key - Hash Key First", "60E431591EE0B67F0D8A26AACBF5B77F8E0BC6213728C5140546040F0EE37F54"},
		{bytes.Repeat([]byte{0xAA}, 131), "This is a test using a larger than block-size key and a larger than block-size data. The key needs to be hashed before being used by the HMAC algorithm.", "9B09FFA71B942FCB27635FBCD5B0E944BFDC63644F0713938A7F51535C3A35E2"},
		{nil, "", "B613679A0814D9EC772F95D778C35FC5FF1697C493715653C6C712144292C5AD"},
		{rising(64), "just a block", "C29E7C9FC16C895DEC84D3496AD1CF4A996ADA34324F80F498BA65ACA604EF57"},
		{rising(65), "one more", "4016777DC3A9F3E1DECA10F7317F0C918854F3152318EEB51183588F2B6EBC57"},
	} {
		want := fromHex(t, x.mac)
		same(t, x.mac[:8], MAC(x.key, []byte(x.text)), want)
		same(t, x.mac[:8]+" in parts", MAC(x.key, cut([]byte(x.text), 3)...), want)
	}
}

func TestD1KeysOfEachSize(t *testing.T) {
	for n := range 3*64 + 2 {
		for _, size := range []int{0, 1, 55, 64, 200} {
			key, text := some(n), some(size)
			if got, want := MAC(key, text), libMAC(key, text); got != want {
				t.Errorf("key of %d, text of %d: %X, want %X", n, size, got, want)
			}
		}
	}
}

// TestD1KeyEdges tells what the words ask of keys that are alike when they fill a block.
func TestD1KeyEdges(t *testing.T) {
	text := []byte("text")
	none := MAC(nil, text)
	same(t, "empty key", MAC([]byte{}, text), none)
	same(t, "a key of 64 zeros", MAC(make([]byte, 64), text), none)
	if MAC(make([]byte, 65), text) == none {
		t.Error("65 zeros: not made shorter")
	}
	long := some(65)
	sum := sha256.Sum256(long)
	same(t, "the Sum of a key of 65", MAC(long, text), MAC(sum[:], text))
	just := some(64)
	sum = sha256.Sum256(just)
	if MAC(just, text) == MAC(sum[:], text) {
		t.Error("64 bytes: made shorter")
	}
	if MAC(some(64), text) == MAC(some(64)[:63], text) {
		t.Error("the last byte of 64 does not matter")
	}
}

func TestD1TextsOfEachSize(t *testing.T) {
	key := some(32)
	for n := range 200 {
		if got, want := MAC(key, some(n)), libMAC(key, some(n)); got != want {
			t.Errorf("text of %d: %X, want %X", n, got, want)
		}
	}
}

func TestD1NoPartsAndEmptyParts(t *testing.T) {
	key := []byte("key")
	want := libMAC(key, nil)
	same(t, "no parts", MAC(key), want)
	same(t, "nil", MAC(key, nil), want)
	same(t, "empty", MAC(key, []byte{}), want)
	same(t, "some of both", MAC(key, nil, []byte{}, nil), want)
	same(t, "no list of parts", MAC(key, [][]byte(nil)...), want)
	same(t, "empty between", MAC(key, nil, []byte("a"), []byte{}, []byte("b"), nil), libMAC(key, []byte("ab")))
}

func TestD1PartsDoNotMatter(t *testing.T) {
	key, text := some(70), some(200)
	short := api.Key(some(32))
	want, wantShort := libMAC(key, text), Short(short, text)
	for size := 1; size <= len(text); size++ {
		if MAC(key, cut(text, size)...) != want || Short(short, cut(text, size)...) != wantShort {
			t.Errorf("parts of %d: another MAC", size)
		}
	}
	for at := range len(text) + 1 {
		if MAC(key, text[:at], text[at:]) != want {
			t.Errorf("two parts at %d: another MAC", at)
		}
	}
}

func TestD1WhatMatters(t *testing.T) {
	key := []byte("key")
	mac := MAC(key, []byte("a"), []byte("bc"))
	for what, other := range map[string][32]byte{
		"the order of parts":      MAC(key, []byte("bc"), []byte("a")),
		"a byte of 0 behind":      MAC(key, []byte("abc"), []byte{0}),
		"another key":             MAC([]byte("keY"), []byte("abc")),
		"a byte moved to the key": MAC([]byte("keya"), []byte("bc")),
	} {
		if other == mac {
			t.Errorf("%s does not matter", what)
		}
	}
}

func TestD1Short(t *testing.T) {
	for _, key := range []api.Key{{}, {1, 2, 3}, api.Key(some(32))} {
		for _, parts := range [][][]byte{nil, {nil}, {[]byte("x")}, cut(some(150), 40)} {
			whole := libMAC(key[:], bytes.Join(parts, nil))
			if got := Short(key, parts...); got != api.MAC(whole[:16]) {
				t.Errorf("%X, want %X", got, whole[:16])
			}
		}
	}
}

func TestD1LeavesWhatItIsHanded(t *testing.T) {
	for _, n := range []int{0, 5, 63, 64, 65, 130} {
		key, one, two := withRoom(some(n)), withRoom(some(70)), withRoom(some(3))
		list := [][]byte{one, two, nil, nil}
		first := MAC(key, list[:2]...)
		short := Short(api.Key(some(32)), list[:2]...)
		wantUntouched(t, "key", key, some(n))
		wantUntouched(t, "first part", one, some(70))
		wantUntouched(t, "second part", two, some(3))
		if &list[0][0] != &one[0] || &list[1][0] != &two[0] || list[2] != nil || list[3] != nil {
			t.Error("the list of parts is another one")
		}
		same(t, "told again", MAC(key, one, two), first)
		clear(key)
		clear(one)
		clear(two)
		same(t, "told after others were written over", MAC(some(n), some(70), some(3)), first)
		if short != Short(api.Key(some(32)), some(70), some(3)) {
			t.Error("Short tells otherwise after its parts were written over")
		}
	}
}

// TestD2Known is held against MACs that were worked out elsewhere.
func TestD2Known(t *testing.T) {
	for _, x := range []struct {
		key   api.Key
		label string
		parts [][]byte
		want  string
	}{
		{api.Key(rising(32)), "hop", [][]byte{nil, []byte("xy")}, "C14B13890AB6FAA5F2C03AEB5EDD30A0A64837445AFDC28531EECC61811C140A"},
		{api.Key(rising(32)), "", nil, "A86ACBCBC29B8FA83C83582D56A892D0F06F0E487DF5277680B0635C3927E3C5"},
		{api.Key{}, "epoch", [][]byte{{0, 0, 0, 7}}, "970F4AA849C5F008C73D2ABC8C933161C08A797BA679DD26E915B28D17F026E6"},
		{api.Key(rising(32)), "\xff\x00\x80", [][]byte{bytes.Repeat([]byte("a"), 300)}, "E5C5DAF04BF588C79945775DAE1165299EA67C21A3425BBB680367E659E8F8E6"},
	} {
		same(t, "Derive of "+strconv.Quote(x.label), Derive(x.key, x.label, x.parts...), fromHex(t, x.want))
	}
}

func TestD2LengthsAreAhead(t *testing.T) {
	key := api.Key(some(32))
	for _, label := range []string{"", "a", "hop", "\x00", "\xff\xfe", string(some(255)), string(some(256)), string(some(70000))} {
		for _, parts := range [][][]byte{nil, {nil}, {{}}, {nil, nil}, {[]byte("x")}, {some(255), some(256), some(257)}, cut(some(99), 7)} {
			want := libMAC(key[:], measured(label, parts...))
			if got := Derive(key, label, parts...); got != want {
				t.Errorf("label of %d bytes, %d parts: %X, want %X", len(label), len(parts), got, want)
			}
		}
	}
}

// TestD2LengthsOfFourBytes has lengths of which each of the four bytes is not 0.
func TestD2LengthsOfFourBytes(t *testing.T) {
	key := api.Key{7}
	long := some(0x01020304)
	same(t, "a part", Derive(key, "x", long, []byte("y")), libMAC(key[:], measured("x", long, []byte("y"))))
	same(t, "a label", Derive(key, string(long)), libMAC(key[:], measured(string(long))))
}

func TestD2PartsMatter(t *testing.T) {
	key := api.Key{1}
	seen := map[api.Key]int{}
	all := []api.Key{
		Derive(key, "abc"),
		Derive(key, "abc", nil),
		Derive(key, "abc", nil, nil),
		Derive(key, "ab", []byte("c")),
		Derive(key, "a", []byte("bc")),
		Derive(key, "a", []byte("b"), []byte("c")),
		Derive(key, "a", []byte("c"), []byte("b")),
		Derive(key, "a", []byte("bc"), nil),
		Derive(key, "a", nil, []byte("bc")),
		Derive(key, "", []byte("abc")),
		Derive(key, ""),
		Derive(key, "", nil),
		Derive(api.Key{2}, "abc"),
		api.Key(MAC(key[:], []byte("abc"))),
	}
	for i, k := range all {
		if j, ok := seen[k]; ok {
			t.Errorf("%d and %d are the same key", j, i)
		}
		seen[k] = i
	}
	if Derive(key, "a", nil) != Derive(key, "a", []byte{}) {
		t.Error("nil and empty are two things")
	}
}

func TestD2LeavesWhatItIsHanded(t *testing.T) {
	key := api.Key(some(32))
	one, two := withRoom(some(70)), withRoom(some(3))
	list := [][]byte{one, two, nil, nil, nil, nil}
	first := Derive(key, "label", list[:2]...)
	wantUntouched(t, "first part", one, some(70))
	wantUntouched(t, "second part", two, some(3))
	if &list[0][0] != &one[0] || &list[1][0] != &two[0] || list[2] != nil || list[3] != nil {
		t.Error("the list of parts is another one")
	}
	if key != api.Key(some(32)) || Derive(key, "label", one, two) != first {
		t.Error("told otherwise the second time")
	}
	clear(one)
	clear(two)
	if Derive(key, "label", some(70), some(3)) != first {
		t.Error("told otherwise after the parts were written over")
	}
}

func TestD3Same(t *testing.T) {
	for n := range 70 {
		a, b := some(n), some(n)
		if !Same(a, b) || !Same(a, a) {
			t.Errorf("%d bytes: not the same", n)
		}
	}
	if !Same(nil, nil) || !Same(nil, []byte{}) || !Same([]byte{}, nil) || !Same([]byte{}, []byte{}) {
		t.Error("no bytes: not the same")
	}
}

func TestD3DifferInOneBit(t *testing.T) {
	for _, n := range []int{1, 2, 16, 33} {
		a, b := some(n), some(n)
		for i := range 8 * n {
			b[i/8] ^= 1 << (i % 8)
			if Same(a, b) || Same(b, a) {
				t.Errorf("%d bytes: the same with bit %d turned", n, i)
			}
			b[i/8] ^= 1 << (i % 8)
		}
	}
}

// TestD3DifferInTwo has differences that would undo each other, if they were added or xored into one.
func TestD3DifferInTwo(t *testing.T) {
	for _, x := range [][2]string{{"ab", "ba"}, {"\x01\x01", "\x00\x00"}, {"\x00\x02", "\x01\x01"}, {"\x80\x80", "\x00\x00"}, {"aXa", "XaX"}} {
		if Same([]byte(x[0]), []byte(x[1])) {
			t.Errorf("%q and %q: the same", x[0], x[1])
		}
	}
}

func TestD3NotAsMany(t *testing.T) {
	b := some(33)
	for n := range len(b) {
		if Same(b[:n], b) || Same(b, b[:n]) {
			t.Errorf("%d and %d bytes: the same", n, len(b))
		}
	}
	if Same(nil, []byte{0}) || Same([]byte{0}, nil) || Same([]byte{0}, []byte{0, 0}) || Same(make([]byte, 256), nil) {
		t.Error("bytes of 0: the same as fewer of them")
	}
}

func TestD3LeavesWhatItIsHanded(t *testing.T) {
	a, b, c := withRoom(some(40)), withRoom(some(40)), withRoom(some(41))
	if !Same(a, b) || Same(a, c) {
		t.Error("told wrongly")
	}
	wantUntouched(t, "a", a, some(40))
	wantUntouched(t, "b", b, some(40))
	wantUntouched(t, "c", c, some(41))
	clear(a)
	if Same(a, b) {
		t.Error("the same after one was written over")
	}
}
