package sha

import (
	"bytes"
	"crypto/sha256"
	"encoding/hex"
	"math/big"
	"strings"
	"testing"
)

// some tells n bytes of which no two blocks are alike.
func some(n int) []byte {
	b := make([]byte, n)
	x := uint32(n) + 1
	for i := range b {
		x = x*1664525 + 1013904223
		b[i] = byte(x >> 24)
	}
	return b
}

// sizes are all numbers of bytes over some blocks, with each edge of a block and of its length, and some of many blocks.
func sizes() []int {
	var all []int
	for n := range 4*64 + 3 {
		all = append(all, n)
	}
	for _, blocks := range []int{16, 64, 1000} {
		for _, over := range []int{-9, -8, -1, 0, 1, 55, 56} {
			all = append(all, 64*blocks+over)
		}
	}
	return all
}

func same(t *testing.T, what string, got, want [32]byte) {
	t.Helper()
	if got != want {
		t.Errorf("%s: %X, want %X", what, got, want)
	}
}

func fromHex(t *testing.T, text string) (sum [32]byte) {
	t.Helper()
	b, err := hex.DecodeString(strings.ReplaceAll(text, " ", ""))
	if err != nil || copy(sum[:], b) != 32 {
		t.Fatalf("%s: not a sum", text)
	}
	return sum
}

func cut(b []byte, size int) [][]byte {
	var parts [][]byte
	for len(b) > 0 {
		n := min(size, len(b))
		parts = append(parts, b[:n])
		b = b[n:]
	}
	return parts
}

// known are texts with their sums, the chapter's example ahead.
func known() []struct{ text, sum string } {
	return []struct{ text, sum string }{
		{"abc", "BA7816BF 8F01CFEA 414140DE 5DAE2223 B00361A3 96177A9C B410FF61 F20015AD"},
		{"", "E3B0C442 98FC1C14 9AFBF4C8 996FB924 27AE41E4 649B934C A495991B 7852B855"},
		{"abcdbcdecdefdefgefghfghighijhijkijkljklmklmnlmnomnopnopq", "248D6A61 D20638B8 E5C02693 0C3E6039 A33CE459 64FF2167 F6ECEDD4 19DB06C1"},
		{"abcdefghbcdefghicdefghijdefghijkefghijklfghijklmghijklmnhijklmnoijklmnopjklmnopqklmnopqrlmnopqrsmnopqrstnopqrstu", "CF5B16A7 78AF8380 036CE59E 7B049237 0B249B11 E8F07A51 AFAC4503 7AFEE9D1"},
		{strings.Repeat("a", 1000000), "CDC76E5C 9914FB92 81A1C7E2 84D73E67 F1809A48 A497200E 046D39CC C7112CD0"},
	}
}

func TestC1Known(t *testing.T) {
	for _, x := range known() {
		same(t, x.text[:min(8, len(x.text))], Sum([]byte(x.text)), fromHex(t, x.sum))
	}
}

func TestC1Sizes(t *testing.T) {
	for _, n := range sizes() {
		b := some(n)
		if got, want := Sum(b), sha256.Sum256(b); got != want {
			t.Errorf("%d bytes: %X, want %X", n, got, want)
		}
	}
}

func TestC1BytesOfOneKind(t *testing.T) {
	for _, x := range []byte{0x00, 0x80, 0xFF} {
		for n := range 130 {
			b := bytes.Repeat([]byte{x}, n)
			if got, want := Sum(b), sha256.Sum256(b); got != want {
				t.Errorf("%d of %X: %X, want %X", n, x, got, want)
			}
		}
	}
}

func TestC1NoPartsAndEmptyParts(t *testing.T) {
	empty := fromHex(t, known()[1].sum)
	same(t, "no parts", Sum(), empty)
	same(t, "nil", Sum(nil), empty)
	same(t, "empty", Sum([]byte{}), empty)
	same(t, "nil and empty", Sum(nil, []byte{}, nil), empty)
	same(t, "no list of parts", Sum([][]byte(nil)...), empty)
	abc := fromHex(t, known()[0].sum)
	same(t, "empty between", Sum(nil, []byte("a"), []byte{}, nil, []byte("bc"), nil), abc)
}

func TestC1PartsDoNotMatter(t *testing.T) {
	b := some(300)
	want := sha256.Sum256(b)
	for size := 1; size <= len(b); size++ {
		if got := Sum(cut(b, size)...); got != want {
			t.Errorf("parts of %d: %X, want %X", size, got, want)
		}
	}
	for at := range len(b) + 1 {
		if got := Sum(b[:at], b[at:]); got != want {
			t.Errorf("two parts at %d: %X, want %X", at, got, want)
		}
	}
}

func TestC1OrderOfPartsMatters(t *testing.T) {
	if Sum([]byte("a"), []byte("bc")) == Sum([]byte("bc"), []byte("a")) {
		t.Error("the parts the other way round have the same sum")
	}
}

func TestC1LeavesItsParts(t *testing.T) {
	parts := cut(some(300), 70)
	first := parts[0]
	kept := bytes.Join(parts, nil)
	Sum(parts...)
	if !bytes.Equal(bytes.Join(parts, nil), kept) || &parts[0][0] != &first[0] {
		t.Error("Sum has changed what it was handed")
	}
}

// TestC1Tables holds the tables against the rules that they come from: the first bits behind the point of the cube roots of primes, and of their square roots.
func TestC1Tables(t *testing.T) {
	prime := int64(1)
	for i := range k {
		for prime++; !big.NewInt(prime).ProbablyPrime(0); prime++ {
		}
		if !rootHas(prime, 3, big.NewInt(int64(k[i]))) {
			t.Errorf("K %d: %X is not of the cube root of %d", i, k[i], prime)
		}
		if i < len(first) && !rootHas(prime, 2, big.NewInt(int64(first[i]))) {
			t.Errorf("H %d: %X is not of the square root of %d", i, first[i], prime)
		}
	}
}

// rootHas tells whether fraction is the first 32 bits behind the point of a root: one of the whole numbers ahead of it must make it the greatest whose power is not above n.
func rootHas(n, power int64, fraction *big.Int) bool {
	all := new(big.Int).Lsh(big.NewInt(n), uint(32*power))
	for whole := range int64(20) {
		root := new(big.Int).Lsh(big.NewInt(whole), 32)
		root.Add(root, fraction)
		next := new(big.Int).Add(root, big.NewInt(1))
		exponent := big.NewInt(power)
		if root.Exp(root, exponent, nil).Cmp(all) <= 0 && next.Exp(next, exponent, nil).Cmp(all) > 0 {
			return true
		}
	}
	return false
}

func TestC2ZeroStream(t *testing.T) {
	var s Stream
	same(t, "zero", s.Sum(), fromHex(t, known()[1].sum))
	same(t, "new", new(Stream).Sum(), Sum())
	s.Write(nil)
	s.Write([]byte{})
	same(t, "zero with nothing", s.Sum(), Sum())
}

func TestC2Known(t *testing.T) {
	for _, x := range known() {
		for _, size := range []int{1, 7, 63, 64, 65, 1000} {
			var s Stream
			for _, part := range cut([]byte(x.text), size) {
				s.Write(part)
			}
			same(t, x.text[:min(8, len(x.text))], s.Sum(), fromHex(t, x.sum))
		}
	}
}

func TestC2PartsDoNotMatter(t *testing.T) {
	for _, n := range []int{0, 1, 55, 56, 63, 64, 65, 119, 120, 127, 128, 129, 300} {
		b := some(n)
		want := sha256.Sum256(b)
		for size := 1; size <= n+1; size++ {
			var s Stream
			for _, part := range cut(b, size) {
				s.Write(part)
				s.Write(nil)
			}
			if got := s.Sum(); got != want {
				t.Errorf("%d bytes in parts of %d: %X, want %X", n, size, got, want)
			}
		}
	}
}

func TestC2SumInBetween(t *testing.T) {
	b := some(300)
	for _, size := range []int{1, 5, 32, 55, 64, 65, 150} {
		var s Stream
		n := 0
		for _, part := range cut(b, size) {
			s.Write(part)
			n += len(part)
			want := sha256.Sum256(b[:n])
			same(t, "once", s.Sum(), want)
			same(t, "twice", s.Sum(), want)
		}
	}
}

func TestC2CopyGoesItsOwnWay(t *testing.T) {
	for _, n := range []int{0, 1, 55, 60, 63, 64, 65, 128, 200} {
		b := some(n)
		var s Stream
		s.Write(b)
		other := s
		s.Write([]byte("abc"))
		same(t, "the copy, behind what its like took", other.Sum(), sha256.Sum256(b))
		other.Write(some(100))
		same(t, "the stream", s.Sum(), sha256.Sum256(append(bytes.Clone(b), "abc"...)))
		same(t, "the copy", other.Sum(), sha256.Sum256(append(bytes.Clone(b), some(100)...)))
	}
}

func TestC2StreamsAreApart(t *testing.T) {
	var one, two Stream
	one.Write([]byte("a"))
	two.Write(some(70))
	one.Write([]byte("bc"))
	same(t, "one", one.Sum(), fromHex(t, known()[0].sum))
	same(t, "two", two.Sum(), sha256.Sum256(some(70)))
}

func TestC2WhatIsHandedInIsTheCallers(t *testing.T) {
	for _, n := range []int{1, 63, 64, 65, 130} {
		b := some(n)
		var s Stream
		s.Write(b)
		if !bytes.Equal(b, some(n)) {
			t.Errorf("%d bytes: Write has changed what it was handed", n)
		}
		clear(b)
		same(t, "written over", s.Sum(), sha256.Sum256(some(n)))
	}
}

func TestC2WhatIsAnsweredIsTheCallers(t *testing.T) {
	var s Stream
	s.Write([]byte("abc"))
	sum := s.Sum()
	clear(sum[:])
	same(t, "behind a sum that was written over", s.Sum(), fromHex(t, known()[0].sum))
}

// TestC2LengthAbove32Bits takes as many bytes as make 8 n need more than four of its eight bytes.
func TestC2LengthAbove32Bits(t *testing.T) {
	if testing.Short() {
		t.Skip("takes seconds")
	}
	b := some(1 << 20)
	var s Stream
	want := sha256.New()
	for range 1<<9 + 1 {
		s.Write(b)
		want.Write(b)
	}
	same(t, "2^29 + 2^20 bytes", s.Sum(), [32]byte(want.Sum(nil)))
}
