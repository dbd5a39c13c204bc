package chacha

import (
	"bytes"
	"crypto/sha256"
	"encoding/hex"
	"math"
	"testing"

	"hourglass/api"
)

const sunscreen = "Ladies and Gentlemen of the class of '99: If I could offer you only one tip for the future, sunscreen would be it."

// some tells n bytes of which no two blocks are alike.
func some(n int) []byte {
	b := make([]byte, n)
	x := uint32(n) + 1
	for i := range b {
		x = x*1664525 + 1013904223
		b[i] = byte(x >> 24)
	}
	return b
}

// risingKey is 00 01 02 .. 1F.
func risingKey() (key api.Key) {
	for i := range key {
		key[i] = byte(i)
	}
	return key
}

// risingNonce is A0 A1 .. AB.
func risingNonce() (nonce [12]byte) {
	for i := range nonce {
		nonce[i] = 0xA0 + byte(i)
	}
	return nonce
}

func fullKey() api.Key { return api.Key(bytes.Repeat([]byte{0xFF}, 32)) }

func fullNonce() [12]byte { return [12]byte(bytes.Repeat([]byte{0xFF}, 12)) }

func fromHex(t *testing.T, text string) []byte {
	t.Helper()
	b, err := hex.DecodeString(text)
	if err != nil {
		t.Fatalf("%s: not bytes", text)
	}
	return b
}

func same(t *testing.T, what string, got, want []byte) {
	t.Helper()
	if !bytes.Equal(got, want) {
		t.Errorf("%s: %X, want %X", what, got, want)
	}
}

// withRoom tells a copy of bytes, with marked room behind that nobody may write into.
func withRoom(b []byte) []byte {
	all := append(bytes.Clone(b), bytes.Repeat([]byte{0xEE}, 100)...)
	return all[:len(b)]
}

// wantUntouched asks that bytes of withRoom are as they were, and so is the room behind.
func wantUntouched(t *testing.T, what string, b, was []byte) {
	t.Helper()
	room := b[len(b):cap(b)][:100]
	if !bytes.Equal(b, was) || !bytes.Equal(room, bytes.Repeat([]byte{0xEE}, 100)) {
		t.Errorf("%s: written over", what)
	}
}

type known struct {
	name    string
	key     api.Key
	counter uint32
	nonce   [12]byte
	block   string
}

// knownBlocks has the chapter's example ahead (which is the first of RFC 8439, A.1), then the others of A.1 and that of 2.3.2, then some of which each byte of counter, key and nonce is another one.
func knownBlocks() []known {
	return []known{
		{"A.1 #1", api.Key{}, 0, [12]byte{}, "76B8E0ADA0F13D90405D6AE55386BD28BDD219B8A08DED1AA836EFCC8B770DC7DA41597C5157488D7724E03FB8D84A376A43B8F41518A11CC387B669B2EE6586"},
		{"A.1 #2", api.Key{}, 1, [12]byte{}, "9F07E7BE5551387A98BA977C732D080DCB0F29A048E3656912C6533E32EE7AED29B721769CE64E43D57133B074D839D531ED1F28510AFB45ACE10A1F4B794D6F"},
		{"A.1 #3", api.Key{31: 1}, 1, [12]byte{}, "3AEB5224ECF849929B9D828DB1CED4DD832025E8018B8160B82284F3C949AA5A8ECA00BBB4A73BDAD192B5C42F73F2FD4E273644C8B36125A64ADDEB006C13A0"},
		{"A.1 #4", api.Key{1: 0xFF}, 2, [12]byte{}, "72D54DFBF12EC44B362692DF94137F328FEA8DA73990265EC1BBBEA1AE9AF0CA13B25AA26CB4A648CB9B9D1BE65B2C0924A66C54D545EC1B7374F4872E99F096"},
		{"A.1 #5", api.Key{}, 0, [12]byte{11: 2}, "C2C64D378CD536374AE204B9EF933FCD1A8B2288B3DFA49672AB765B54EE27C78A970E0E955C14F3A88E741B97C286F75F8FC299E8148362FA198A39531BED6D"},
		{"2.3.2", risingKey(), 1, [12]byte{3: 9, 7: 0x4A}, "10F1E7E4D13B5915500FDD1FA32071C4C7D1F4C733C068030422AA9AC3D46C4ED2826446079FAA0914C2D705D98B02A2B5129CD1DE164EB9CBD083E8A2503C4E"},
		{"rising, 0", risingKey(), 0, risingNonce(), "F7BAF7E4CC1BFEAEA3E5885E99CA209F520ADEA739997A357F85AB6E14007197598AFB967692ECE398007DE8563B9C10DE4228ECA19F9510DC4A495468779733"},
		{"rising, four bytes", risingKey(), 0x04030201, risingNonce(), "D7335E0AA1D3B6F6240B468BA3A8BE853F84E4A9CF28407E945DF0CB4ECF3B2C1DEA16D5114CCA1A61E7A2A11520CFC51848026470EB7CDEDC0219A907E6E35B"},
		{"rising, the greatest", risingKey(), math.MaxUint32, risingNonce(), "9F51D9FB93F9314061222FCB53E9B9443832D43B3D116D50BF96B64C6189DD7E339188144984A56C155EAE8E27A253E72E69DD097EA7D67937815A7BFABFD759"},
		{"all of FF", fullKey(), math.MaxUint32, fullNonce(), "D72B21CFA4B6B0C41D61F62B8A11159C6A4F63BC56C2035796C7AD37811121BBEC56D54A530F3A933DD28A50FEB23BFAF64F405BE985F3718BDF4683E96BE749"},
	}
}

func TestE1Known(t *testing.T) {
	for _, x := range knownBlocks() {
		block := Block(x.key, x.counter, x.nonce)
		same(t, x.name, block[:], fromHex(t, x.block))
	}
}

// TestE1Quarter has the quarter of RFC 8439, 2.1.1.
func TestE1Quarter(t *testing.T) {
	a, b, c, d := quarter(0x11111111, 0x01020304, 0x9B8D6F43, 0x01234567)
	if a != 0xEA2A92F4 || b != 0xCB1CF8CE || c != 0x4581472E || d != 0x5881C4BB {
		t.Errorf("%X %X %X %X", a, b, c, d)
	}
}

// otherBlock is the block said once more: by columns and then diagonals of a square, in numbers of 64 bits that are cut.
func otherBlock(key api.Key, counter uint32, nonce [12]byte) []byte {
	words := []byte("expand 32-byte k")
	words = append(words, key[:]...)
	words = append(words, byte(counter), byte(counter>>8), byte(counter>>16), byte(counter>>24))
	words = append(words, nonce[:]...)
	var square, was [4][4]uint64
	for i, x := range words {
		square[i/16][i/4%4] |= uint64(x) << (8 * (i % 4))
	}
	was = square
	for round := range 20 {
		for i := range 4 {
			over := round % 2
			otherQuarter(&square[0][i], &square[1][(i+over)%4], &square[2][(i+2*over)%4], &square[3][(i+3*over)%4])
		}
	}
	block := make([]byte, 64)
	for i := range block {
		sum := square[i/16][i/4%4] + was[i/16][i/4%4]
		block[i] = byte(sum >> (8 * (i % 4)))
	}
	return block
}

func otherQuarter(a, b, c, d *uint64) {
	step := func(to, by, turned *uint64, left int) {
		*to = (*to + *by) & math.MaxUint32
		x := *turned ^ *to
		*turned = (x<<left | x>>(32-left)) & math.MaxUint32
	}
	step(a, b, d, 16)
	step(c, d, b, 12)
	step(a, b, d, 8)
	step(c, d, b, 7)
}

func TestE1Many(t *testing.T) {
	for i := range 500 {
		b := some(48 + i)[i:]
		key, nonce := api.Key(b[:32]), [12]byte(b[32:44])
		counter := uint32(b[44]) | uint32(b[45])<<8 | uint32(b[46])<<16 | uint32(b[47])<<24
		block := Block(key, counter, nonce)
		if want := otherBlock(key, counter, nonce); !bytes.Equal(block[:], want) {
			t.Errorf("%X: %X, want %X", b, block, want)
		}
	}
}

// TestE1Counter holds the counter against what is beside it: the last bytes of the key, and the first of the nonce.
func TestE1Counter(t *testing.T) {
	for _, counter := range []uint32{0, 1, 2, 0xFF, 0x100, 0xFFFF, 0x10000, 1 << 24, 1 << 31, math.MaxUint32 - 1, math.MaxUint32} {
		key, nonce := risingKey(), risingNonce()
		block := Block(key, counter, nonce)
		same(t, "counter", block[:], otherBlock(key, counter, nonce))
	}
	if Block(api.Key{}, 1, [12]byte{}) == Block(api.Key{}, 0, [12]byte{1}) || Block(api.Key{}, 1, [12]byte{}) == Block(api.Key{28: 1}, 0, [12]byte{}) {
		t.Error("the counter stands where the key or the nonce does")
	}
}

// TestE1EachByteMatters changes each bit of what is handed in, from nothing and from what is not.
func TestE1EachByteMatters(t *testing.T) {
	for _, began := range []struct {
		key     api.Key
		counter uint32
		nonce   [12]byte
	}{{}, {risingKey(), 0x04030201, risingNonce()}} {
		seen := map[[64]byte]int{Block(began.key, began.counter, began.nonce): -1}
		for bit := range 8 * (32 + 4 + 12) {
			key, counter, nonce := began.key, began.counter, began.nonce
			at, by := bit/8, byte(1)<<(bit%8)
			switch {
			case at < 32:
				key[at] ^= by
			case at < 44:
				nonce[at-32] ^= by
			default:
				counter ^= uint32(by) << (8 * (at - 44))
			}
			block := Block(key, counter, nonce)
			if other, ok := seen[block]; ok {
				t.Errorf("bits %d and %d: the same block", other, bit)
			}
			seen[block] = bit
			same(t, "a block with a bit turned", block[:], otherBlock(key, counter, nonce))
		}
	}
}

func TestE1IsTheSameAgain(t *testing.T) {
	key, nonce := risingKey(), risingNonce()
	one := Block(key, 7, nonce)
	kept := one
	clear(one[:])
	Block(fullKey(), 9, fullNonce())
	if Block(key, 7, nonce) != kept {
		t.Error("told otherwise the second time")
	}
	if key != risingKey() || nonce != risingNonce() {
		t.Error("what was handed in is another one")
	}
}

// blocks are those of counter 0, 1 and so on, as a Stream should put them.
func blocks(key api.Key, nonce [12]byte, n int) []byte {
	var all []byte
	for counter := range uint32(n) {
		all = append(all, otherBlock(key, counter, nonce)...)
	}
	return all
}

func TestE2StreamOfEachSize(t *testing.T) {
	key, nonce := risingKey(), risingNonce()
	all := blocks(key, nonce, 6)
	for n := range len(all) + 1 {
		if got := Stream(key, nonce, n); !bytes.Equal(got, all[:n]) {
			t.Errorf("%d bytes: %X, want %X", n, got, all[:n])
		}
	}
}

func TestE2StreamOfNone(t *testing.T) {
	for _, n := range []int{0, -1, -3, -63, -64, -65, math.MinInt32, math.MinInt} {
		if got := Stream(risingKey(), risingNonce(), n); len(got) != 0 {
			t.Errorf("%d bytes: %X", n, got)
		}
	}
}

// TestE2StreamTooLong asks only for no panic, and that it ends: nothing else is promised of so many.
func TestE2StreamTooLong(t *testing.T) {
	over := mostBytes
	over++
	for _, n := range []int{over, math.MaxInt} {
		if got := Stream(risingKey(), risingNonce(), n); len(got) != 0 {
			t.Errorf("%d bytes asked for: %d told", n, len(got))
		}
	}
}

func TestE2StreamKnown(t *testing.T) {
	same(t, "zeros", Stream(api.Key{}, [12]byte{}, 128), fromHex(t, knownBlocks()[0].block+knownBlocks()[1].block))
	same(t, "rising", Stream(risingKey(), risingNonce(), 200), fromHex(t,
		"F7BAF7E4CC1BFEAEA3E5885E99CA209F520ADEA739997A357F85AB6E14007197598AFB967692ECE398007DE8563B9C10DE4228ECA19F9510DC4A495468779733"+
			"0CAB785F4DE6C2ADA00FF314FCFAFDFB9D5ED3BF436A60A3B4D8DBB17162C30C6C80168AAEC9FF8AC6CCF5BD1D5178464AC44A38090C6B8127540B404C2AA5C8"+
			"B1FB674E38E992F022F0D2890DB0A97E00990FE31CBC96A07B284A808ECCA0BB9C4767A08F5B6DF5AF40606294C01BF548C2B3555550EAA5A8ECA053B290B03E"+
			"7F2DFCFE89A7FBC3"))
}

// TestE2StreamLong has as many blocks as need three bytes of the counter; the sum of the stream was worked out elsewhere.
func TestE2StreamLong(t *testing.T) {
	sum := sha256.Sum256(Stream(risingKey(), risingNonce(), 5000000))
	same(t, "the sum of five million bytes", sum[:], fromHex(t, "93E75128FFCC30A13EF621B2CEB9B257CEE79898FECFDE4AD3C87C515B6CE9EE"))
}

func TestE2StreamIsOfBlock(t *testing.T) {
	for _, x := range knownBlocks() {
		s := Stream(x.key, x.nonce, 300*64)
		for _, counter := range []uint32{0, 1, 2, 255, 256, 299} {
			block := Block(x.key, counter, x.nonce)
			same(t, x.name, s[64*counter:][:64], block[:])
		}
	}
}

func TestE2ShorterBeginsLonger(t *testing.T) {
	key, nonce := api.Key(some(32)), [12]byte(some(12))
	long := Stream(key, nonce, 1000)
	for n := range len(long) {
		if short := Stream(key, nonce, n); !bytes.HasPrefix(long, short) || len(short) != n {
			t.Errorf("%d bytes: not those that %d begin with", n, len(long))
		}
	}
}

func TestE2StreamHangsOnKeyAndNonce(t *testing.T) {
	key, nonce := risingKey(), risingNonce()
	s := Stream(key, nonce, 16)
	for i := range key {
		other := key
		other[i] ^= 0x80
		if bytes.Equal(Stream(other, nonce, 16), s) {
			t.Errorf("byte %d of the key does not matter", i)
		}
	}
	for i := range nonce {
		other := nonce
		other[i] ^= 0x80
		if bytes.Equal(Stream(key, other, 16), s) {
			t.Errorf("byte %d of the nonce does not matter", i)
		}
	}
}

func TestE2StreamIsTheCallers(t *testing.T) {
	key, nonce := risingKey(), risingNonce()
	for _, n := range []int{1, 63, 64, 65, 200} {
		one := Stream(key, nonce, n)
		kept := bytes.Clone(one)
		two := Stream(key, nonce, n)
		for i := range one {
			one[i] ^= 0xFF
		}
		_ = append(one, 1, 2, 3)
		same(t, "another that was told", two, kept)
		same(t, "one that is told behind it", Stream(key, nonce, n), kept)
	}
	if key != risingKey() || nonce != risingNonce() {
		t.Error("what was handed in is another one")
	}
}

// TestE2Sunscreen is RFC 8439, 2.4.2: its text is xored from the second block on.
func TestE2Sunscreen(t *testing.T) {
	key, nonce := risingKey(), [12]byte{7: 0x4A}
	stream := Stream(key, nonce, 64+len(sunscreen))[64:]
	hidden := fromHex(t, "6E2E359A2568F98041BA0728DD0D6981E97E7AEC1D4360C20A27AFCCFD9FAE0BF91B65C5524733AB8F593DABCD62B3571639D624E65152AB8F530C359F0861D807CA0DBF500D6A6156A38E088A22B65E52BC514D16CCF806818CE91AB77937365AF90BBF74A35BE6B40B8EEDF2785E42874D")
	same(t, "hidden", Xor([]byte(sunscreen), stream), hidden)
	same(t, "shown", Xor(hidden, stream), []byte(sunscreen))
}

func TestE2XorKnown(t *testing.T) {
	for _, x := range []struct{ a, b, both string }{
		{"", "", ""},
		{"", "abc", ""},
		{"abc", "", ""},
		{"abc", "abc", "\x00\x00\x00"},
		{"abc", "\x00\x00\x00", "abc"},
		{"abcd", "   ", "ABC"},
		{"  ", "ABCD", "ab"},
		{"\xFF\x00\xF0", "\x0F\x0F\xFF", "\xF0\x0F\x0F"},
		{"\x80\x01", "\xFF\xFF\xFF", "\x7F\xFE"},
	} {
		same(t, x.a+" and "+x.b, Xor([]byte(x.a), []byte(x.b)), []byte(x.both))
		same(t, x.b+" and "+x.a, Xor([]byte(x.b), []byte(x.a)), []byte(x.both))
	}
}

func TestE2XorOfNone(t *testing.T) {
	for _, none := range [][]byte{nil, {}} {
		for _, other := range [][]byte{nil, {}, {0}, some(100)} {
			if a, b := Xor(none, other), Xor(other, none); len(a) != 0 || len(b) != 0 {
				t.Errorf("none and %d bytes: %X and %X", len(other), a, b)
			}
		}
	}
}

func TestE2XorOfEachPairOfBytes(t *testing.T) {
	for x := range 256 {
		for y := range 256 {
			if got := Xor([]byte{byte(x)}, []byte{byte(y)}); len(got) != 1 || int(got[0]) != (x|y)-(x&y) {
				t.Errorf("%X and %X: %X", x, y, got)
			}
		}
	}
}

// TestE2XorOfUnlikeLengths xors rows of all lengths, with those bytes undone that both have.
func TestE2XorOfUnlikeLengths(t *testing.T) {
	for n := range 70 {
		for m := range 70 {
			a, b := some(n), some(m)
			both := Xor(a, b)
			if len(both) != min(n, m) {
				t.Errorf("%d and %d bytes: %d told", n, m, len(both))
				continue
			}
			for i, x := range both {
				if x != a[i]^b[i] {
					t.Errorf("%d and %d bytes: wrong at %d", n, m, i)
				}
			}
		}
	}
}

func TestE2TwiceIsAsItWas(t *testing.T) {
	for _, n := range []int{0, 1, 63, 64, 65, 256, 1000} {
		text := some(n)
		stream := Stream(risingKey(), risingNonce(), n)
		same(t, "twice", Xor(Xor(text, stream), stream), text)
		same(t, "from the other side", Xor(stream, Xor(text, stream)), text)
	}
	same(t, "with a longer one", Xor(Xor(some(5), some(9)), some(9)), some(5))
	same(t, "with itself", Xor(some(40), some(40)), make([]byte, 40))
}

func TestE2XorLeavesWhatItIsHanded(t *testing.T) {
	for _, x := range [][2]int{{0, 0}, {0, 5}, {5, 0}, {40, 40}, {40, 41}, {41, 40}} {
		a, b := withRoom(some(x[0])), withRoom(some(x[1]))
		both := Xor(a, b)
		kept := bytes.Clone(both)
		wantUntouched(t, "a", a, some(x[0]))
		wantUntouched(t, "b", b, some(x[1]))
		for i := range both {
			both[i] ^= 0xFF
		}
		_ = append(both, 1, 2, 3)
		wantUntouched(t, "a, behind an answer that was written over", a, some(x[0]))
		wantUntouched(t, "b, behind an answer that was written over", b, some(x[1]))
		again := Xor(a, b)
		same(t, "told again", again, kept)
		clear(a)
		clear(b)
		same(t, "told, behind rows that were written over", again, kept)
	}
}

// TestE2XorOfARowWithItsOwn has rows that share memory.
func TestE2XorOfARowWithItsOwn(t *testing.T) {
	row := some(50)
	same(t, "a row with itself", Xor(row, row), make([]byte, 50))
	moved := Xor(row, row[1:])
	for i, x := range moved {
		if x != row[i]^row[i+1] {
			t.Errorf("a row with its own end: wrong at %d", i)
		}
	}
	if len(moved) != 49 {
		t.Errorf("a row with its own end: %d bytes", len(moved))
	}
	same(t, "the row", row, some(50))
}
