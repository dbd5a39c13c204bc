package window

import (
	"math"
	"math/big"
	"slices"
	"testing"

	"hourglass/api"
	"hourglass/clock"
)

const (
	most      = math.MaxUint64
	mostDelay = math.MaxUint32
)

// trip is what Windows and Latest are handed.
type trip struct {
	start      uint64
	delays     []uint32
	link, skew uint64
}

func large(n uint64) *big.Int { return new(big.Int).SetUint64(n) }

func plus(a, b *big.Int) *big.Int { return new(big.Int).Add(a, b) }

// otherHi is the earliest and the Hi of a hop as the chapter says them, in numbers without an end.
func otherHi(x trip, hop int) (earliest, hi *big.Int) {
	earliest = large(x.start)
	for _, delay := range x.delays[:hop] {
		earliest = plus(earliest, large(uint64(delay)))
	}
	links := new(big.Int).Mul(big.NewInt(int64(hop+1)), large(x.link))
	return earliest, plus(plus(earliest, links), large(x.skew))
}

// otherWindows is what the chapter says of Windows once more.
func otherWindows(x trip) ([]Window, api.Errno) {
	if len(x.delays) == 0 || len(x.delays) > 5 {
		return nil, api.ErrArg
	}
	var windows []Window
	for hop := range x.delays {
		earliest, hi := otherHi(x, hop)
		if !earliest.IsUint64() || !hi.IsUint64() {
			return nil, api.ErrOver
		}
		lo := new(big.Int).Sub(earliest, large(x.skew))
		if lo.Sign() < 0 {
			lo.SetInt64(0)
		}
		windows = append(windows, Window{Lo: lo.Uint64(), Hi: hi.Uint64()})
	}
	return windows, api.OK
}

// otherLatest is what the chapter says of Latest once more.
func otherLatest(x trip) (uint64, bool) {
	if _, err := otherWindows(x); err != api.OK {
		return 0, false
	}
	last := len(x.delays) - 1
	_, hi := otherHi(x, last)
	latest := plus(hi, large(uint64(x.delays[last])))
	if !latest.IsUint64() {
		return 0, false
	}
	return latest.Uint64(), true
}

func wantWindows(t *testing.T, x trip, want []Window) {
	t.Helper()
	windows, err := Windows(x.start, x.delays, x.link, x.skew)
	if !slices.Equal(windows, want) || err != api.OK {
		t.Errorf("Windows%v: %v, %v, want %v", x, windows, err, want)
	}
}

func wantLatest(t *testing.T, x trip, want uint64, wantOK bool) {
	t.Helper()
	latest, ok := Latest(x.start, x.delays, x.link, x.skew)
	if latest != want || ok != wantOK {
		t.Errorf("Latest%v: %d, %v, want %d, %v", x, latest, ok, want, wantOK)
	}
}

// wantFault: Windows answers this error alone, and Latest 0 and false.
func wantFault(t *testing.T, x trip, want api.Errno) {
	t.Helper()
	windows, err := Windows(x.start, x.delays, x.link, x.skew)
	if len(windows) != 0 || err != want {
		t.Errorf("Windows%v: %v, %v, want %v alone", x, windows, err, want)
	}
	wantLatest(t, x, 0, false)
}

// wantAsTold holds both calls against what the chapter says.
func wantAsTold(t *testing.T, x trip) {
	t.Helper()
	if want, err := otherWindows(x); err != api.OK {
		wantFault(t, x, err)
	} else {
		wantWindows(t, x, want)
	}
	latest, ok := otherLatest(x)
	wantLatest(t, x, latest, ok)
}

// random gives words that are the same in each run.
func random() func() uint64 {
	x := uint64(1)
	return func() uint64 {
		x = x*6364136223846793005 + 1442695040888963407
		return x ^ x>>29
	}
}

func randomDelays(next func() uint64, count int) []uint32 {
	delays := make([]uint32, count)
	for i := range delays {
		delays[i] = uint32(next()) >> (next() % 32)
	}
	return delays
}

func TestH1Known(t *testing.T) {
	for _, x := range []struct {
		trip   trip
		want   []Window
		latest uint64
	}{
		{trip{100, []uint32{10, 20}, 5, 2}, []Window{{98, 107}, {108, 122}}, 142},
		{trip{0, []uint32{0}, 0, 0}, []Window{{0, 0}}, 0},
		{trip{7, []uint32{9}, 0, 0}, []Window{{7, 7}}, 16},
		{trip{100, []uint32{10}, 5, 2}, []Window{{98, 107}}, 117},
		{trip{100, []uint32{10, 20, 30}, 0, 0}, []Window{{100, 100}, {110, 110}, {130, 130}}, 160},
		{trip{100, []uint32{0, 0, 0}, 5, 0}, []Window{{100, 105}, {100, 110}, {100, 115}}, 115},
		{trip{100, []uint32{0, 0, 0}, 0, 2}, []Window{{98, 102}, {98, 102}, {98, 102}}, 102},
		{
			trip{1000, []uint32{1, 20, 300, 4000, 50000}, 7, 9},
			[]Window{{991, 1016}, {992, 1024}, {1012, 1051}, {1312, 1358}, {5312, 5365}},
			55365,
		},
		{ // delays that are together more than a delay can be
			trip{0, []uint32{mostDelay, mostDelay, mostDelay, mostDelay, mostDelay}, 1, 0},
			[]Window{{0, 1}, {mostDelay, mostDelay + 2}, {2 * mostDelay, 2*mostDelay + 3}, {3 * mostDelay, 3*mostDelay + 4}, {4 * mostDelay, 4*mostDelay + 5}},
			5*mostDelay + 5,
		},
	} {
		wantWindows(t, x.trip, x.want)
		wantLatest(t, x.trip, x.latest, true)
	}
}

func TestH1Lo(t *testing.T) {
	for _, x := range []struct {
		start, skew uint64
		lo          []uint64
	}{
		{0, 0, []uint64{0, 10, 30}},
		{0, 1, []uint64{0, 9, 29}},
		{99, 100, []uint64{0, 9, 29}},
		{100, 100, []uint64{0, 10, 30}},
		{101, 100, []uint64{1, 11, 31}},
		{90, 100, []uint64{0, 0, 20}}, // the earliest of the second hop is skew
		{89, 100, []uint64{0, 0, 19}},
		{91, 100, []uint64{0, 1, 21}},
		{70, 100, []uint64{0, 0, 0}},
		{0, 100, []uint64{0, 0, 0}},
		{0, 1 << 63, []uint64{0, 0, 0}},
		{5, most - 1000, []uint64{0, 0, 0}},
		{1 << 62, 1 << 62, []uint64{0, 10, 30}},
	} {
		windows, err := Windows(x.start, []uint32{10, 20, 30}, 5, x.skew)
		if len(windows) != len(x.lo) || err != api.OK {
			t.Errorf("from %d with a skew of %d: %v, %v", x.start, x.skew, windows, err)
			continue
		}
		for hop, lo := range x.lo {
			if windows[hop].Lo != lo {
				t.Errorf("from %d with a skew of %d: the Lo of hop %d is %d, want %d", x.start, x.skew, hop, windows[hop].Lo, lo)
			}
		}
	}
}

// TestH1HopsAreMissing: too few and too many delays are an ErrArg, whatever the times are.
func TestH1HopsAreMissing(t *testing.T) {
	for _, delays := range [][]uint32{nil, {}, make([]uint32, 6), {1, 2, 3, 4, 5, 6}, make([]uint32, 7), make([]uint32, 10), make([]uint32, 1<<8+1), make([]uint32, 1<<16+1)} {
		for _, n := range []uint64{0, 1, 1 << 63, most} {
			wantFault(t, trip{n, delays, 0, 0}, api.ErrArg)
			wantFault(t, trip{0, delays, n, 0}, api.ErrArg)
			wantFault(t, trip{0, delays, 0, n}, api.ErrArg)
			wantFault(t, trip{n, delays, n, n}, api.ErrArg)
		}
	}
}

func TestH1EachCount(t *testing.T) {
	delays := []uint32{3, 1, 4, 1, 5}
	whole, _ := otherWindows(trip{1000, delays, 10, 20})
	for count := 1; count <= 5; count++ {
		x := trip{1000, delays[:count], 10, 20}
		wantWindows(t, x, whole[:count])
		wantAsTold(t, x)
	}
}

// TestH1Over: each row is at most 2^64 - 1 to the tick, and above it if the start, the link, the skew or a delay ahead is one more.
func TestH1Over(t *testing.T) {
	for _, x := range []trip{
		{most, []uint32{0}, 0, 0},
		{0, []uint32{0}, most, 0},
		{0, []uint32{0}, 0, most},
		{1 << 63, []uint32{7}, 1<<62 - 1, 1 << 62},
		{most, []uint32{0, 0, 0, 0, 0}, 0, 0},
		{most - 10, []uint32{10, 7}, 0, 0},
		{most - 10, []uint32{3, 7, 9}, 0, 0},
		{most - 10, []uint32{1, 2, 3, 4, 5}, 0, 0},
		{most - 4*(mostDelay-1), []uint32{mostDelay - 1, mostDelay - 1, mostDelay - 1, mostDelay - 1, mostDelay}, 0, 0},
		{1, []uint32{0, 0}, 1<<63 - 1, 0},
		{0, []uint32{0, 0, 0}, most / 3, 0},
		{3, []uint32{0, 0, 0, 0}, most / 4, 0},
		{0, []uint32{0, 0, 0, 0, 0}, most / 5, 0},
		{0, []uint32{5, 4, 3, 2, 1}, most/5 - 3, 1},
		{most - 132, []uint32{10, 20, 30, 40, 50}, 5, 7},
		{20, []uint32{10, 2}, 1, most - 32},
	} {
		last := len(x.delays) - 1
		windows, err := Windows(x.start, x.delays, x.link, x.skew)
		if len(windows) != last+1 || err != api.OK || windows[last].Hi != most {
			t.Errorf("Windows%v: %v, %v, want a last Hi of %d", x, windows, err, uint64(most))
		}
		wantAsTold(t, x)
		for _, y := range oneMore(x) {
			wantFault(t, y, api.ErrOver)
		}
	}
}

// oneMore is all trips with one of the numbers that make the last Hi one more; what is 2^64 - 1 already has no more.
func oneMore(x trip) []trip {
	var all []trip
	if x.start < most {
		all = append(all, trip{x.start + 1, x.delays, x.link, x.skew})
	}
	if x.link < most {
		all = append(all, trip{x.start, x.delays, x.link + 1, x.skew})
	}
	if x.skew < most {
		all = append(all, trip{x.start, x.delays, x.link, x.skew + 1})
	}
	for i := range len(x.delays) - 1 {
		delays := slices.Clone(x.delays)
		delays[i]++
		all = append(all, trip{x.start, delays, x.link, x.skew})
	}
	return all
}

// TestH1OverIsNotWrappedRound: sums so far above 2^64 - 1 that what wraps round looks like a time.
func TestH1OverIsNotWrappedRound(t *testing.T) {
	for _, x := range []trip{
		{most, []uint32{0}, most, most},
		{most, []uint32{5, 5, 5, 5, 5}, most, most},
		{100, []uint32{0, 0}, 1 << 63, 0},
		{100, []uint32{0, 0, 0}, 1 << 63, 0},
		{0, []uint32{0, 0, 0, 0}, 1 << 62, 0},
		{0, []uint32{0, 0, 0, 0, 0}, 1 << 62, 0},
		{0, []uint32{0, 0, 0, 0, 0}, 1<<64/5 + 1, 0},
		{0, []uint32{0, 0, 0, 0, 0}, most, 0},
		{1 << 63, []uint32{0}, 1 << 63, 0},
		{1 << 63, []uint32{0}, 0, 1 << 63},
		{0, []uint32{0}, 1 << 63, 1 << 63},
		{1 << 63, []uint32{0}, 1 << 63, 1 << 63},
		{most - 5, []uint32{100, 1}, 0, 0},
		{most - 5, []uint32{100, 1}, 3, 2},
		{most - 5, []uint32{100, mostDelay, mostDelay, mostDelay, mostDelay}, 0, 0},
		{most - 5, []uint32{0, 0, 0, 100, 0}, 0, 0},
	} {
		wantFault(t, x, api.ErrOver)
	}
}

// TestH1LastDelay: it is no part of Windows, but of Latest.
func TestH1LastDelay(t *testing.T) {
	for count := 1; count <= 5; count++ {
		for _, spare := range []uint64{0, 1, 5, mostDelay - 1, mostDelay} { // from the last Hi to 2^64 - 1
			delays := make([]uint32, count)
			x := trip{most - 30 - spare - 3*uint64(count), delays, 3, 30}
			want, err := otherWindows(x)
			if err != api.OK || want[count-1].Hi != most-spare {
				t.Fatalf("%v: %v, %v", x, want, err)
			}
			for _, delay := range []uint64{0, 1, spare - 1, spare, spare + 1, mostDelay} {
				if delay > mostDelay {
					continue
				}
				delays[count-1] = uint32(delay)
				wantWindows(t, x, want)
				if delay > spare {
					wantLatest(t, x, 0, false)
				} else {
					wantLatest(t, x, most-spare+delay, true)
				}
			}
		}
	}
	wantLatest(t, trip{most, []uint32{5}, 0, 0}, 0, false)
	wantLatest(t, trip{most, []uint32{0}, 0, 0}, most, true)
}

// TestH1LatestAtAnError: a Latest that would be there if the errors of Windows were not.
func TestH1LatestAtAnError(t *testing.T) {
	wantLatest(t, trip{1, nil, 1, 1}, 0, false)
	wantLatest(t, trip{1, []uint32{}, 1, 1}, 0, false)
	wantLatest(t, trip{1, make([]uint32, 6), 1, 1}, 0, false)
	wantLatest(t, trip{most, []uint32{1, 0}, 0, 0}, 0, false)
	wantLatest(t, trip{most, []uint32{0}, 1, 0}, 0, false)
	wantLatest(t, trip{most, []uint32{0}, 0, 1}, 0, false)
	wantLatest(t, trip{0, []uint32{0, 0}, 1 << 63, 0}, 0, false)
}

func TestH1Edges(t *testing.T) {
	times := []uint64{0, 1, 2, 999, mostDelay, mostDelay + 1, most / 5, most/5 + 1, most / 3, 1<<62 - 1, 1 << 62, 1<<63 - 1, 1 << 63, most - 4*mostDelay, most - mostDelay, most - 2, most - 1, most}
	rows := [][]uint32{nil, {0}, {mostDelay}, {1, 2}, {mostDelay, 0}, {0, mostDelay}, {1, 0, 2}, {0, 0, 0, 1}, {0, 0, 0, 0, 0}, {1, 1, 1, 1, 1}, {mostDelay, mostDelay, mostDelay, mostDelay, mostDelay}, {0, 0, 0, 0, 0, 0}}
	for _, start := range times {
		for _, link := range times {
			for _, skew := range times {
				for _, delays := range rows {
					wantAsTold(t, trip{start, delays, link, skew})
				}
			}
		}
	}
}

func TestH1Many(t *testing.T) {
	next := random()
	for range 20000 {
		count := int(next() % 7)
		x := trip{next() >> (next() % 64), randomDelays(next, count), next() >> (next() % 64), next() >> (next() % 64)}
		if next()%4 == 0 {
			x.start = most - x.start
		}
		wantAsTold(t, x)
	}
}

func wantHas(t *testing.T, w Window, at uint64, want api.Errno) {
	t.Helper()
	if err := w.Has(at); err != want {
		t.Errorf("%v has %d: %v, want %v", w, at, err, want)
	}
}

func TestH1Has(t *testing.T) {
	for _, w := range []Window{{3, 5}, {0, 5}, {3, 3}, {0, 0}, {most, most}, {3, most}, {0, most}, {most - 1, most}, {1<<63 - 1, 1 << 63}, {mostDelay, mostDelay + 1}} {
		wantHas(t, w, w.Lo, api.OK)
		wantHas(t, w, w.Lo+(w.Hi-w.Lo)/2, api.OK)
		wantHas(t, w, w.Hi, api.OK)
		if w.Lo > 0 {
			wantHas(t, w, w.Lo-1, api.ErrEarly)
			wantHas(t, w, 0, api.ErrEarly)
		}
		if w.Hi < most {
			wantHas(t, w, w.Hi+1, api.ErrLate)
			wantHas(t, w, most, api.ErrLate)
		}
	}
	wantHas(t, Window{}, 0, api.OK)
	wantHas(t, Window{}, 1, api.ErrLate)
}

// TestH1HasNothing: a window that ends ahead of its begin; of two errors the first is told.
func TestH1HasNothing(t *testing.T) {
	w := Window{Lo: 5, Hi: 3}
	for at, want := range []api.Errno{api.ErrEarly, api.ErrEarly, api.ErrEarly, api.ErrEarly, api.ErrEarly, api.ErrLate, api.ErrLate} {
		wantHas(t, w, uint64(at), want)
	}
	wantHas(t, Window{Lo: most, Hi: 0}, most-1, api.ErrEarly)
	wantHas(t, Window{Lo: most, Hi: 0}, most, api.ErrLate)
}

// travel goes along a trip, by links and clocks that are wrong as pick says, and tells the first hop that it does not come to in time, or -1.
func travel(x trip, windows []Window, pick func() (link uint64, wrong int64)) (int, api.Errno) {
	now := x.start
	for hop, w := range windows {
		link, wrong := pick()
		now += link
		seen, ok := clock.Shift(now, wrong)
		if !ok {
			seen = 0 // no clock shows less
		}
		if err := w.Has(seen); err != api.OK {
			return hop, err
		}
		now += uint64(x.delays[hop])
	}
	return -1, api.OK
}

// TestH1InTime: who is at most link late to each hop, by a clock that is at most skew wrong, comes in its window.
func TestH1InTime(t *testing.T) {
	next := random()
	for range 5000 {
		x := trip{next() % 200, randomDelays(next, 1+int(next()%5)), next() % 50, next() % 100}
		windows, err := Windows(x.start, x.delays, x.link, x.skew)
		if err != api.OK {
			t.Fatalf("Windows%v: %v", x, err)
		}
		skew := int64(x.skew)
		for name, pick := range map[string]func() (uint64, int64){
			"as early as may be": func() (uint64, int64) { return 0, -skew },
			"as late as may be":  func() (uint64, int64) { return x.link, skew },
			"to the tick":        func() (uint64, int64) { return 0, 0 },
			"somehow":            func() (uint64, int64) { return next() % (x.link + 1), int64(next()%(2*x.skew+1)) - skew },
		} {
			if hop, err := travel(x, windows, pick); err != api.OK {
				t.Errorf("%v: who comes %s is told %v at hop %d of %v", x, name, err, hop, windows)
			}
		}
	}
}

// TestH1NotInTime: windows are no wider than that: who is one tick earlier or later is in none of them.
func TestH1NotInTime(t *testing.T) {
	next := random()
	for range 1000 {
		x := trip{1000 + next()%200, randomDelays(next, 1+int(next()%5)), next() % 50, next() % 100}
		windows, err := Windows(x.start, x.delays, x.link, x.skew)
		if err != api.OK {
			t.Fatalf("Windows%v: %v", x, err)
		}
		for from := range windows { // in time ahead of this hop, and too early or too late at it
			hop := -1
			early := func() (uint64, int64) {
				if hop++; hop == from {
					return 0, -int64(x.skew) - 1
				}
				return 0, -int64(x.skew)
			}
			if at, err := travel(x, windows, early); at != from || err != api.ErrEarly {
				t.Errorf("%v: who is too early at hop %d is told %v at %d", x, from, err, at)
			}
			hop = -1
			late := func() (uint64, int64) {
				if hop++; hop == from {
					return x.link + 1, int64(x.skew)
				}
				return x.link, int64(x.skew)
			}
			if at, err := travel(x, windows, late); at != from || err != api.ErrLate {
				t.Errorf("%v: who is too late at hop %d is told %v at %d", x, from, err, at)
			}
		}
	}
}

// TestH1HandedInStays (R1), with what lies behind the end of the list.
func TestH1HandedInStays(t *testing.T) {
	row := []uint32{11, 22, 33, 44, 55, 66, 77}
	old := slices.Clone(row)
	for count := range len(row) + 1 {
		for _, start := range []uint64{0, 100, most - 50, most} {
			Windows(start, row[:count], 3, 4)
			Latest(start, row[:count], 3, 4)
		}
		if !slices.Equal(row, old) {
			t.Fatalf("%d delays: they are %v now", count, row)
		}
	}
}

// TestH1AnswerIsTheCallers (R1, R4): nobody's writing is seen by anybody else.
func TestH1AnswerIsTheCallers(t *testing.T) {
	for count := 1; count <= 5; count++ {
		delays := []uint32{5, 4, 3, 2, 1}[:count]
		x := trip{100, delays, 7, 9}
		want, _ := otherWindows(x)
		one, _ := Windows(x.start, x.delays, x.link, x.skew)
		two, _ := Windows(x.start, x.delays, x.link, x.skew)
		one = one[:cap(one)]
		for i := range one {
			one[i] = Window{42, 42}
		}
		clear(delays)
		if !slices.Equal(two, want) {
			t.Errorf("%d delays: %v behind others who wrote over theirs, want %v", count, two, want)
		}
		x.delays = []uint32{5, 4, 3, 2, 1}[:count]
		wantWindows(t, x, want)
		wantAsTold(t, x)
	}
}
