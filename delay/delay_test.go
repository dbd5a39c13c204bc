package delay

import (
	"math"
	"math/big"
	"testing"
)

const (
	greatest     = math.MaxUint32
	greatestWord = math.MaxUint64
)

// numbers are the powers of two, those beside them, and some of many bits.
func numbers() []uint32 {
	var all []uint32
	for bit := range 32 {
		power := uint32(1) << bit
		all = append(all, power-1, power, power+1)
	}
	all = append(all, greatest-1, greatest)
	x := uint32(1)
	for range 500 {
		x = x*1664525 + 1013904223
		all = append(all, x, x>>(x&31))
	}
	return all
}

// otherLog2 is what the chapter says once more, in numbers without an end, that are divided.
func otherLog2(n uint32) uint32 {
	if n == 0 {
		return 0
	}
	x := new(big.Int).SetUint64(uint64(n))
	least, end := big.NewInt(1<<31), big.NewInt(1<<32)
	log := uint32(31 * 65536)
	for x.Cmp(least) < 0 {
		x.Add(x, x)
		log -= 65536
	}
	for part := uint32(32768); part > 0; part /= 2 {
		x.Mul(x, x)
		x.Quo(x, least)
		if x.Cmp(end) >= 0 {
			log += part
			x.Quo(x, big.NewInt(2))
		}
	}
	return log
}

// trueLog2 is the logarithm of n that is above 0 by its meaning: the place of the highest bit of n to the power of 65536.
func trueLog2(n uint32) uint32 {
	x := new(big.Int).SetUint64(uint64(n))
	for range 16 {
		x.Mul(x, x)
	}
	return uint32(x.BitLen() - 1)
}

func wantLog2(t *testing.T, n, want uint32) {
	t.Helper()
	if log := Log2(n); log != want {
		t.Errorf("Log2(%d): %d, want %d", n, log, want)
	}
}

func TestF1Log2Known(t *testing.T) {
	for _, x := range []struct{ n, log uint32 }{
		{0, 0},
		{1, 0},
		{2, 65536},
		{3, 103872},
		{5, 152169},
		{7, 183982},
		{10, 217705},
		{100, 435411},
		{127, 458010},
		{129, 459487},
		{255, 523917},
		{256, 524288},
		{257, 524656},
		{1000, 653117},
		{65535, 1048574},
		{65537, 1048577},
		{1000000, 1306235},
		{1<<31 - 1, 31<<16 - 1},
		{1<<31 + 1, 31 << 16},
		{1<<31 + 32768, 31<<16 + 1},
		{3037000499, 31<<16 + 32767},
		{3037000500, 31<<16 + 32768}, // the first above the root of 2^63
		{greatest - 1, 32<<16 - 1},
		{greatest, 32<<16 - 1},
	} {
		wantLog2(t, x.n, x.log)
	}
}

// TestF1Log2Cut has numbers of which the last bit is another one if a square is rounded, or kept whole.
func TestF1Log2Cut(t *testing.T) {
	for _, x := range []struct{ n, log uint32 }{
		{2149710681, 2031713},
		{2151917263, 2031810},
		{2156337224, 2032004},
		{2169651653, 2032586},
		{2194275325, 2033653},
		{2201039240, 2033944},
		{2205560096, 2034138},
		{2207824005, 2034235},
		{2223736568, 2034914},
		{2228304044, 2035108},
	} {
		wantLog2(t, x.n, x.log)
	}
}

func TestF1Log2PowersOfTwo(t *testing.T) {
	for bit := range uint32(32) {
		wantLog2(t, 1<<bit, bit*65536)
	}
}

// TestF1Log2BesidePowersOfTwo: below a power the whole part is one less, above it not, and where there is a bit of a difference the one above has it.
func TestF1Log2BesidePowersOfTwo(t *testing.T) {
	for bit := uint32(2); bit < 32; bit++ {
		power := uint32(1) << bit
		below, at, above := Log2(power-1), Log2(power), Log2(power+1)
		if below >= at || below>>16 != bit-1 || above < at || above>>16 != bit || bit < 16 && above == at {
			t.Errorf("beside %d: %d, %d, %d", power, below, at, above)
		}
	}
}

func TestF1Log2Twice(t *testing.T) {
	for _, n := range numbers() {
		if n > 0 && n <= greatest/2 {
			wantLog2(t, 2*n, Log2(n)+65536)
		}
	}
}

func TestF1Log2Many(t *testing.T) {
	for _, n := range numbers() {
		wantLog2(t, n, otherLog2(n))
	}
	for n := range uint32(5000) {
		wantLog2(t, n, otherLog2(n))
	}
}

func TestF1Log2IsTheLogarithm(t *testing.T) {
	for n := uint32(1); n <= 256; n++ {
		wantLog2(t, n, trueLog2(n))
	}
	for _, n := range numbers() {
		if n == 0 {
			continue
		}
		if log, near := float64(Log2(n)), math.Log2(float64(n))*65536; log > near+0.01 || log < near-1.01 {
			t.Errorf("Log2(%d): %v, want about %v", n, log, near)
		}
	}
}

func TestF1Log2Rises(t *testing.T) {
	for n := uint32(2); n < 30000; n++ {
		if below, log := Log2(n-1), Log2(n); log <= below {
			t.Errorf("Log2(%d): %d, behind %d", n, log, below)
		}
	}
}

// TestF1Fraction: there are sixteen bits, the same each time, and whoever has enough of them gets no more.
func TestF1Fraction(t *testing.T) {
	all := fraction(3 << 30)
	for range 2 {
		var log, count uint32
		for bit := range all {
			if bit > 1 {
				t.Errorf("a bit of %d", bit)
			}
			log, count = 2*log+bit, count+1
		}
		if log != 38336 || count != 16 {
			t.Errorf("%d bits of %d", count, log)
		}
		for range all {
			break
		}
	}
}

// wantTable is the table, worked out elsewhere.
func wantTable() [256]uint32 {
	return [256]uint32{
		0, 257, 514, 772, 1032, 1292, 1554, 1817, 2080, 2345, 2611, 2878, 3146, 3415, 3686, 3957,
		4230, 4503, 4778, 5054, 5331, 5609, 5888, 6169, 6451, 6734, 7018, 7304, 7591, 7879, 8168, 8459,
		8751, 9044, 9339, 9635, 9932, 10230, 10530, 10831, 11134, 11438, 11744, 12051, 12360, 12670, 12981, 13293,
		13607, 13923, 14241, 14560, 14880, 15202, 15526, 15851, 16178, 16507, 16837, 17169, 17502, 17838, 18174, 18513,
		18853, 19195, 19539, 19885, 20233, 20582, 20934, 21287, 21642, 22000, 22359, 22720, 23083, 23448, 23815, 24185,
		24556, 24929, 25305, 25683, 26062, 26444, 26829, 27215, 27605, 27996, 28389, 28785, 29184, 29584, 29988, 30394,
		30802, 31213, 31626, 32042, 32461, 32882, 33307, 33734, 34163, 34596, 35032, 35470, 35911, 36356, 36803, 37253,
		37707, 38163, 38624, 39087, 39553, 40023, 40496, 40973, 41453, 41936, 42423, 42915, 43409, 43908, 44410, 44916,
		45426, 45940, 46458, 46980, 47506, 48037, 48572, 49112, 49656, 50204, 50757, 51314, 51877, 52444, 53017, 53594,
		54177, 54765, 55358, 55956, 56560, 57170, 57786, 58407, 59033, 59667, 60306, 60952, 61604, 62263, 62928, 63600,
		64279, 64965, 65659, 66360, 67068, 67785, 68509, 69241, 69982, 70731, 71488, 72255, 73031, 73815, 74610, 75414,
		76228, 77052, 77887, 78733, 79589, 80458, 81337, 82229, 83133, 84050, 84979, 85922, 86879, 87849, 88835, 89836,
		90852, 91884, 92932, 93998, 95082, 96183, 97303, 98443, 99603, 100784, 101986, 103212, 104459, 105732, 107030, 108354,
		109705, 111085, 112494, 113935, 115408, 116914, 118457, 120036, 121654, 123313, 125015, 126763, 128559, 130405, 132305, 134261,
		136278, 138358, 140508, 142729, 145029, 147412, 149885, 152456, 155131, 157920, 160834, 163883, 167080, 170441, 173985, 177731,
		181704, 185934, 190455, 195311, 200557, 206260, 212506, 219411, 227130, 235881, 245983, 257932, 272556, 291409, 317982, 363408,
	}
}

func TestF1Table(t *testing.T) {
	table := Table()
	for i, want := range wantTable() {
		if table[i] != want {
			t.Errorf("place %d: %d, want %d", i, table[i], want)
		}
		by := uint64(524288-trueLog2(uint32(256-i))) * 45426 / 65536
		if uint64(table[i]) != by {
			t.Errorf("place %d: %d, but by the logarithm %d", i, table[i], by)
		}
	}
}

func TestF1TableEnds(t *testing.T) {
	table := Table()
	for i, want := range map[int]uint32{0: 0, 1: 257, 128: 45426, 192: 2 * 45426, 224: 3 * 45426, 254: 7 * 45426, 255: 8 * 45426} {
		if table[i] != want {
			t.Errorf("place %d: %d, want %d", i, table[i], want)
		}
	}
}

func TestF1TableRises(t *testing.T) {
	table := Table()
	for i := 1; i < len(table); i++ {
		if table[i] <= table[i-1] {
			t.Errorf("place %d: %d, behind %d", i, table[i], table[i-1])
		}
	}
}

func TestF1TableIsAboutTheLogarithm(t *testing.T) {
	for i, n := range Table() {
		if near := 65536 * math.Log(256/float64(256-i)); math.Abs(float64(n)-near) > 2 {
			t.Errorf("place %d: %d, want about %v", i, n, near)
		}
	}
}

// TestF1TableIsTheCallers (R1, R4).
func TestF1TableIsTheCallers(t *testing.T) {
	table := Table()
	for i := range table {
		table[i] = greatest
	}
	if Table() != wantTable() {
		t.Error("the table is another one behind a caller who wrote over his own")
	}
	if d := Draw(1<<63, 100, 1000); d != 69 {
		t.Errorf("Draw is %d behind a caller who wrote over his table", d)
	}
}

func wantDraw(t *testing.T, word uint64, mean, most, want uint32) {
	t.Helper()
	if d := Draw(word, mean, most); d != want {
		t.Errorf("Draw(%X, %d, %d): %d, want %d", word, mean, most, d, want)
	}
}

func TestF2Known(t *testing.T) {
	for _, x := range []struct {
		word             uint64
		mean, most, want uint32
	}{
		{0, 100, 1000, 0},
		{1 << 63, 100, 1000, 69},
		{greatestWord, 100, 1000, 554},
		{greatestWord, 100, 554, 554},
		{greatestWord, 100, 553, 553},
		{greatestWord, 100, 300, 300},
		{1 << 56, 65536, greatest, 257},
		{1 << 56, 65535, greatest, 256},
		{200 << 56, 65537, greatest, 99604},
		{64 << 56, 1000000000, greatest, 287673950},
		{200 << 56, 1000000000, greatest, 1519821166},
		{200 << 56, 1 << 31, greatest, 3263791104},
		{1 << 56, greatest, greatest, 16842751},
		{1 << 63, greatest, greatest, 2977038335},
		{1 << 63, greatest, 2977038334, 2977038334},
	} {
		wantDraw(t, x.word, x.mean, x.most, x.want)
	}
}

// TestF2Places: with a mean of one the delay is the place of the table itself, whatever the lowest 56 bits are.
func TestF2Places(t *testing.T) {
	for i, want := range wantTable() {
		for _, low := range []uint64{0, 1, 1 << 55, 0xA5A5A5A5A5A5A5, 1<<56 - 1} {
			wantDraw(t, uint64(i)<<56|low, 65536, greatest, want)
		}
	}
}

func TestF2LowBitsSayNothing(t *testing.T) {
	for _, high := range []uint64{0, 1, 127, 128, 200, 255} {
		for _, mean := range []uint32{1, 100, 65537, greatest} {
			want := Draw(high<<56, mean, greatest)
			for bit := range 56 {
				wantDraw(t, high<<56|1<<bit, mean, greatest, want)
			}
			wantDraw(t, high<<56|(1<<56-1), mean, greatest, want)
		}
	}
}

func TestF2FirstWords(t *testing.T) {
	for _, mean := range []uint32{0, 1, 100, 65536, greatest} {
		wantDraw(t, 0, mean, greatest, 0)
		wantDraw(t, 1<<56-1, mean, greatest, 0)
	}
}

func TestF2NoMean(t *testing.T) {
	for i := range uint64(256) {
		wantDraw(t, i<<56, 0, greatest, 0)
		wantDraw(t, i<<56, 0, 0, 0)
	}
}

// TestF2GreatestMean: what is more than a uint32 is cut by most, and does not wrap round.
func TestF2GreatestMean(t *testing.T) {
	for i, n := range wantTable() {
		long := uint64(n) * greatest / 65536
		for _, most := range []uint32{0, 1, 1000, 1 << 31, greatest - 1, greatest} {
			wantDraw(t, uint64(i)<<56, greatest, most, uint32(min(long, uint64(most))))
		}
	}
	wantDraw(t, greatestWord, greatest, greatest, greatest)
	wantDraw(t, greatestWord, greatest, greatest-1, greatest-1)
}

func TestF2NoMost(t *testing.T) {
	for i := range uint64(256) {
		wantDraw(t, i<<56, 100, 0, 0)
		wantDraw(t, i<<56, greatest, 0, 0)
	}
}

// TestF2MostCuts has most one below, at and one above the delay.
func TestF2MostCuts(t *testing.T) {
	for i, n := range wantTable() {
		for _, mean := range []uint32{100, 5000, 65535, 65537} {
			word, long := uint64(i)<<56, uint32(uint64(n)*uint64(mean)/65536)
			wantDraw(t, word, mean, long, long)
			wantDraw(t, word, mean, long+1, long)
			wantDraw(t, word, mean, greatest, long)
			if long > 0 {
				wantDraw(t, word, mean, long-1, long-1)
			}
		}
	}
}

// TestF2LargerMean: a larger mean is never a shorter delay.
func TestF2LargerMean(t *testing.T) {
	means := []uint32{1<<16 - 1, 1 << 16, 1<<16 + 1, 1 << 24, 1<<31 - 1, 1 << 31, 1<<31 + 1, greatest - 1, greatest}
	for i := range uint64(256) {
		for _, most := range []uint32{0, 50, 1000, greatest} {
			last := uint32(0)
			rise := func(mean uint32) {
				d := Draw(i<<56, mean, most)
				if d < last || d > most {
					t.Errorf("Draw of place %d, %d, %d: %d, behind %d", i, mean, most, d, last)
				}
				last = d
			}
			for mean := range uint32(300) {
				rise(mean)
			}
			for _, mean := range means {
				rise(mean)
			}
		}
	}
}

func TestF2LargerWord(t *testing.T) {
	for _, mean := range []uint32{0, 1, 100, 1000, 65536, greatest} {
		last := uint32(0)
		for i := range uint64(256) {
			d := Draw(i<<56, mean, greatest)
			if d < last || mean >= 1000 && i > 0 && d == last && d < greatest {
				t.Errorf("Draw of place %d, %d: %d, behind %d", i, mean, d, last)
			}
			last = d
		}
	}
}

// TestF2Mean: over all words a packet stays about as long as the mean says.
func TestF2Mean(t *testing.T) {
	sum := 0
	for i := range uint64(256) {
		sum += int(Draw(i<<56, 1000, greatest))
	}
	if mean := sum / 256; mean < 970 || mean > 1000 {
		t.Errorf("the mean of 1000 is %d", mean)
	}
}
