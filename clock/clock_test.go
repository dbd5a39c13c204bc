package clock

import (
	"math"
	"math/big"
	"testing"
)

const most = math.MaxUint64

// times are ordinary times and the edges at which a sum, a difference or a type ends.
func times() []uint64 {
	return []uint64{
		0, 1, 2, 5, 6, 999, 1000, 1001, 1999, 2000,
		math.MaxUint32 - 1, math.MaxUint32, math.MaxUint32 + 1,
		math.MaxInt64 - 1, math.MaxInt64, math.MaxInt64 + 1, math.MaxInt64 + 2,
		most - 1000, most - 1, most,
	}
}

// shifts are ordinary shifts and the edges of an int64.
func shifts() []int64 {
	return []int64{
		0, 1, -1, 5, -5, 6, -6, 1000, -1000,
		math.MaxUint32, -math.MaxUint32,
		math.MaxInt64 - 1, math.MaxInt64, math.MinInt64 + 2, math.MinInt64 + 1, math.MinInt64,
	}
}

func large(n uint64) *big.Int { return new(big.Int).SetUint64(n) }

// asTime is the number that a call should tell beside its bool, worked out where nothing wraps round.
func asTime(n *big.Int) (uint64, bool) {
	if !n.IsUint64() {
		return 0, false
	}
	return n.Uint64(), true
}

func TestB1Add(t *testing.T) {
	for _, x := range []struct {
		a, b, sum uint64
		ok        bool
	}{
		{0, 0, 0, true},
		{5, 3, 8, true},
		{3, 5, 8, true},
		{most, 0, most, true},
		{0, most, most, true},
		{most - 1, 1, most, true},
		{1 << 63, 1<<63 - 1, most, true},
		{most, 1, 0, false},
		{1, most, 0, false},
		{1 << 63, 1 << 63, 0, false},
		{most, 2, 0, false},
		{most, most, 0, false},
	} {
		if n, ok := Add(x.a, x.b); n != x.sum || ok != x.ok {
			t.Errorf("Add(%d, %d): %d %v, want %d %v", x.a, x.b, n, ok, x.sum, x.ok)
		}
	}
}

func TestB1Sub(t *testing.T) {
	for _, x := range []struct {
		a, b, left uint64
		ok         bool
	}{
		{0, 0, 0, true},
		{5, 3, 2, true},
		{5, 5, 0, true},
		{most, 0, most, true},
		{most, 1, most - 1, true},
		{most, most, 0, true},
		{1 << 63, 1<<63 - 1, 1, true},
		{3, 5, 0, false},
		{5, 6, 0, false},
		{0, 1, 0, false},
		{0, most, 0, false},
		{most - 1, most, 0, false},
	} {
		if n, ok := Sub(x.a, x.b); n != x.left || ok != x.ok {
			t.Errorf("Sub(%d, %d): %d %v, want %d %v", x.a, x.b, n, ok, x.left, x.ok)
		}
	}
}

func TestB1MoreAndLess(t *testing.T) {
	for _, x := range []struct{ a, b, more, less uint64 }{
		{0, 0, 0, 0},
		{5, 3, 8, 2},
		{3, 5, 8, 0},
		{5, 5, 10, 0},
		{most, 0, most, most},
		{0, most, most, 0},
		{most - 1, 1, most, most - 2},
		{most, 1, most, most - 1},
		{1, most, most, 0},
		{1 << 63, 1 << 63, most, 0},
		{most, most, most, 0},
	} {
		if n := More(x.a, x.b); n != x.more {
			t.Errorf("More(%d, %d): %d, want %d", x.a, x.b, n, x.more)
		}
		if n := Less(x.a, x.b); n != x.less {
			t.Errorf("Less(%d, %d): %d, want %d", x.a, x.b, n, x.less)
		}
	}
}

func TestB1AllPairs(t *testing.T) {
	for _, a := range times() {
		for _, b := range times() {
			sum, fits := asTime(new(big.Int).Add(large(a), large(b)))
			if n, ok := Add(a, b); n != sum || ok != fits {
				t.Errorf("Add(%d, %d): %d %v, want %d %v", a, b, n, ok, sum, fits)
			}
			if !fits {
				sum = most
			}
			if n := More(a, b); n != sum {
				t.Errorf("More(%d, %d): %d, want %d", a, b, n, sum)
			}
			left, fits := asTime(new(big.Int).Sub(large(a), large(b)))
			if n, ok := Sub(a, b); n != left || ok != fits {
				t.Errorf("Sub(%d, %d): %d %v, want %d %v", a, b, n, ok, left, fits)
			}
			if n := Less(a, b); n != left {
				t.Errorf("Less(%d, %d): %d, want %d", a, b, n, left)
			}
		}
	}
}

func TestB1AddedIsTakenAway(t *testing.T) {
	for _, a := range times() {
		for _, b := range times() {
			sum, ok := Add(a, b)
			if !ok {
				continue
			}
			if n, ok := Sub(sum, b); n != a || !ok {
				t.Errorf("%d and %d, without %d: %d %v", a, b, b, n, ok)
			}
		}
	}
}

func TestB2Shift(t *testing.T) {
	for _, x := range []struct {
		t    uint64
		by   int64
		want uint64
		ok   bool
	}{
		{5, 0, 5, true},
		{5, 7, 12, true},
		{5, -2, 3, true},
		{5, -5, 0, true},
		{5, -6, 0, false},
		{0, -1, 0, false},
		{0, 0, 0, true},
		{most, 0, most, true},
		{most - 1, 1, most, true},
		{most, 1, 0, false},
		{most, -1, most - 1, true},
		{0, math.MaxInt64, math.MaxInt64, true},
		{1 << 63, math.MaxInt64, most, true},
		{1<<63 + 1, math.MaxInt64, 0, false},
		{most, math.MaxInt64, 0, false},
		{0, math.MinInt64, 0, false},
		{1<<63 - 1, math.MinInt64, 0, false},
		{1 << 63, math.MinInt64, 0, true},
		{1<<63 + 1, math.MinInt64, 1, true},
		{most, math.MinInt64, 1<<63 - 1, true},
		{1<<63 - 1, math.MinInt64 + 1, 0, true},
		{1<<63 - 2, math.MinInt64 + 1, 0, false},
	} {
		if n, ok := Shift(x.t, x.by); n != x.want || ok != x.ok {
			t.Errorf("Shift(%d, %d): %d %v, want %d %v", x.t, x.by, n, ok, x.want, x.ok)
		}
	}
}

func TestB2AllPairs(t *testing.T) {
	for _, a := range times() {
		for _, by := range shifts() {
			want, fits := asTime(new(big.Int).Add(large(a), big.NewInt(by)))
			if n, ok := Shift(a, by); n != want || ok != fits {
				t.Errorf("Shift(%d, %d): %d %v, want %d %v", a, by, n, ok, want, fits)
			}
		}
	}
}

func TestB3Epoch(t *testing.T) {
	const past = 1000 << 32 // the first time that no epoch has
	for _, x := range []struct {
		t    uint64
		want uint32
		ok   bool
	}{
		{0, 0, true},
		{1, 0, true},
		{999, 0, true},
		{1000, 1, true},
		{1001, 1, true},
		{1999, 1, true},
		{2000, 2, true},
		{past - 1001, math.MaxUint32 - 1, true},
		{past - 1000, math.MaxUint32, true},
		{past - 1, math.MaxUint32, true},
		{past, 0, false},
		{past + 1000, 0, false},
		{past << 1, 0, false},
		{1 << 63, 0, false},
		{most, 0, false},
	} {
		if n, ok := Epoch(x.t); n != x.want || ok != x.ok {
			t.Errorf("Epoch(%d): %d %v, want %d %v", x.t, n, ok, x.want, x.ok)
		}
	}
}

func TestB3Start(t *testing.T) {
	for _, x := range []struct {
		epoch uint32
		want  uint64
	}{
		{0, 0},
		{1, 1000},
		{2, 2000},
		{4294967, 4294967000},
		{4294968, 4294968000}, // the first that starts above 2^32 - 1
		{math.MaxUint32, 4294967295000},
	} {
		if n := Start(x.epoch); n != x.want {
			t.Errorf("Start(%d): %d, want %d", x.epoch, n, x.want)
		}
	}
}

func TestB3StartIsFirst(t *testing.T) {
	for _, epoch := range []uint32{1, 2, 999, 1000, 1 << 31, math.MaxUint32} {
		if n, ok := Epoch(Start(epoch)); n != epoch || !ok {
			t.Errorf("at the start of %d: %d %v", epoch, n, ok)
		}
		if n, ok := Epoch(Start(epoch) - 1); n != epoch-1 || !ok {
			t.Errorf("ahead of the start of %d: %d %v", epoch, n, ok)
		}
	}
}

func TestB4To32(t *testing.T) {
	for _, x := range []struct {
		n    uint64
		want uint32
		ok   bool
	}{
		{0, 0, true},
		{7, 7, true},
		{1 << 31, 1 << 31, true},
		{math.MaxUint32, math.MaxUint32, true},
		{math.MaxUint32 + 1, 0, false},
		{math.MaxUint32 + 8, 0, false},
		{1 << 63, 0, false},
		{most, 0, false},
	} {
		if n, ok := To32(x.n); n != x.want || ok != x.ok {
			t.Errorf("To32(%d): %d %v, want %d %v", x.n, n, ok, x.want, x.ok)
		}
	}
}

func TestB4ToInt64(t *testing.T) {
	for _, x := range []struct {
		n    uint64
		want int64
		ok   bool
	}{
		{0, 0, true},
		{7, 7, true},
		{math.MaxUint32 + 1, math.MaxUint32 + 1, true},
		{math.MaxInt64, math.MaxInt64, true},
		{math.MaxInt64 + 1, 0, false},
		{math.MaxInt64 + 2, 0, false},
		{most, 0, false},
	} {
		if n, ok := ToInt64(x.n); n != x.want || ok != x.ok {
			t.Errorf("ToInt64(%d): %d %v, want %d %v", x.n, n, ok, x.want, x.ok)
		}
	}
}

func TestB4FromInt64(t *testing.T) {
	for _, x := range []struct {
		n    int64
		want uint64
		ok   bool
	}{
		{0, 0, true},
		{7, 7, true},
		{math.MaxUint32 + 1, math.MaxUint32 + 1, true},
		{math.MaxInt64, math.MaxInt64, true},
		{-1, 0, false},
		{-7, 0, false},
		{math.MinInt64 + 1, 0, false},
		{math.MinInt64, 0, false},
	} {
		if n, ok := FromInt64(x.n); n != x.want || ok != x.ok {
			t.Errorf("FromInt64(%d): %d %v, want %d %v", x.n, n, ok, x.want, x.ok)
		}
	}
}

// fitsAs holds fit against int64s, which have every number of the small types.
func fitsAs[To, From number](t *testing.T, least, highest int64) {
	t.Helper()
	for i := int64(math.MinInt16); i <= math.MaxUint16; i++ {
		n := From(i)
		has := int64(n)
		want := has >= least && has <= highest
		if m, ok := fit[To](n); ok != want || ok && int64(m) != has || !ok && m != 0 {
			t.Fatalf("%d of a %T as a %T: %v", n, n, m, ok)
		}
	}
}

func TestB4AnyTwoTypes(t *testing.T) {
	fitsAs[int8, uint8](t, math.MinInt8, math.MaxInt8)
	fitsAs[uint8, int8](t, 0, math.MaxUint8)
	fitsAs[int8, int16](t, math.MinInt8, math.MaxInt8)
	fitsAs[int16, int8](t, math.MinInt16, math.MaxInt16)
	fitsAs[uint8, int16](t, 0, math.MaxUint8)
	fitsAs[uint16, int8](t, 0, math.MaxUint16)
	fitsAs[int16, uint16](t, math.MinInt16, math.MaxInt16)
	fitsAs[uint16, int](t, 0, math.MaxUint16)
	fitsAs[uint, int32](t, 0, math.MaxInt64)
	fitsAs[int8, uint16](t, math.MinInt8, math.MaxInt8)
}
