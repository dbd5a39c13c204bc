package skew

import (
	"fmt"
	"math"
	"math/big"
	"slices"
	"testing"
)

const (
	half = 1 << 63
	last = math.MaxUint64
)

// random gives words that are the same in each run.
func random() func() uint64 {
	x := uint64(1)
	return func() uint64 {
		x = x*6364136223846793005 + 1442695040888963407
		return x ^ x>>29
	}
}

// edgeTimes lie about the first and the last time, and about the half of all, from which on a difference is none.
var edgeTimes = []uint64{0, 1, 2, 999, math.MaxUint32, math.MaxUint32 + 1, half - 2, half - 1, half, half + 1, last - 2, last - 1, last}

// row is what the chapter says of a Skew once more: all that were taken, of which the last sixteen are sorted anew whenever it is asked.
type row struct{ taken []int64 }

func (r *row) add(local, remote uint64) bool {
	ahead := new(big.Int).SetUint64(remote)
	ahead.Sub(ahead, new(big.Int).SetUint64(local))
	if new(big.Int).Abs(ahead).Cmp(big.NewInt(math.MaxInt64)) > 0 {
		return false
	}
	r.taken = append(r.taken, ahead.Int64())
	return true
}

func (r *row) sorted() []int64 {
	kept := slices.Clone(r.taken[max(0, len(r.taken)-16):])
	for i := range kept {
		for j := i; j > 0 && kept[j] < kept[j-1]; j-- {
			kept[j], kept[j-1] = kept[j-1], kept[j]
		}
	}
	return kept
}

// middle looks for the place that has as many behind it as ahead of it, or one more.
func (r *row) middle() (int64, bool) {
	kept := r.sorted()
	for ahead, d := range kept {
		if behind := len(kept) - 1 - ahead; behind == ahead || behind == ahead+1 {
			return d, true
		}
	}
	return 0, false
}

// pair is a Skew, and the row that it is held against at each step.
type pair struct {
	t    *testing.T
	skew Skew
	row  row
}

func newPair(t *testing.T) *pair {
	t.Helper()
	p := &pair{t: t}
	p.wantSame()
	return p
}

// wantSame asks twice, because asking is no change.
func (p *pair) wantSame() {
	p.t.Helper()
	kept := p.row.sorted()
	for range 2 {
		wantLen(p.t, &p.skew, len(kept))
		if len(kept) == 0 {
			wantNone(p.t, &p.skew)
			continue
		}
		middle, _ := p.row.middle()
		wantMiddle(p.t, &p.skew, middle)
		wantBound(p.t, &p.skew, kept[0], kept[len(kept)-1])
	}
}

func (p *pair) add(local, remote uint64) {
	p.t.Helper()
	before := p.skew
	ok := p.row.add(local, remote)
	wantAdd(p.t, &p.skew, local, remote, ok)
	if !ok && p.skew != before {
		p.t.Errorf("Add(%d, %d) is refused, and has changed %v to %v", local, remote, before, p.skew)
	}
	p.wantSame()
}

// addAll adds differences, each at another time.
func (p *pair) addAll(differences ...int64) {
	p.t.Helper()
	for i, d := range differences {
		local, remote := timesOf(d, uint64(i)*7)
		p.add(local, remote)
	}
}

// timesOf tells two times that differ by so much, the first of them at.
func timesOf(difference int64, at uint64) (local, remote uint64) {
	if difference < 0 {
		return at + uint64(-difference), at
	}
	return at, at + uint64(difference)
}

func wantAdd(t *testing.T, s *Skew, local, remote uint64, want bool) {
	t.Helper()
	if ok := s.Add(local, remote); ok != want {
		t.Errorf("Add(%d, %d): %v, want %v", local, remote, ok, want)
	}
}

func wantBound(t *testing.T, s *Skew, lo, hi int64) {
	t.Helper()
	if l, h, ok := s.Bound(); l != lo || h != hi || !ok {
		t.Errorf("Bound: %d, %d, %v, want %d, %d, true", l, h, ok, lo, hi)
	}
}

func wantMiddle(t *testing.T, s *Skew, want int64) {
	t.Helper()
	if m, ok := s.Middle(); m != want || !ok {
		t.Errorf("Middle: %d, %v, want %d, true", m, ok, want)
	}
}

func wantLen(t *testing.T, s *Skew, want int) {
	t.Helper()
	if n := s.Len(); n != want {
		t.Errorf("Len: %d, want %d", n, want)
	}
}

// wantNone: as a zero one answers.
func wantNone(t *testing.T, s *Skew) {
	t.Helper()
	if lo, hi, ok := s.Bound(); lo != 0 || hi != 0 || ok {
		t.Errorf("Bound: %d, %d, %v, want 0, 0, false", lo, hi, ok)
	}
	if m, ok := s.Middle(); m != 0 || ok {
		t.Errorf("Middle: %d, %v, want 0, false", m, ok)
	}
	wantLen(t, s, 0)
}

// TestN1Known is the chapter's example.
func TestN1Known(t *testing.T) {
	var s Skew
	wantAdd(t, &s, 100, 105, true)
	wantAdd(t, &s, 100, 97, true)
	wantAdd(t, &s, 100, 109, true)
	wantBound(t, &s, -3, 9)
	wantMiddle(t, &s, 5)
	wantLen(t, &s, 3)
}

// TestN1Zero: a zero one has none, however often it is asked, and takes the first one.
func TestN1Zero(t *testing.T) {
	for _, s := range []*Skew{{}, new(Skew), &newPair(t).skew} {
		for range 20 {
			wantNone(t, s)
		}
		wantAdd(t, s, 3, 3, true)
		wantBound(t, s, 0, 0) // a difference of 0 is one as all are
		wantMiddle(t, s, 0)
		wantLen(t, s, 1)
	}
}

// TestN1Add: the last difference of either sign that is taken, and the first that is refused.
func TestN1Add(t *testing.T) {
	for _, c := range []struct {
		local, remote uint64
		want          int64
		ok            bool
	}{
		{0, 0, 0, true}, {7, 7, 0, true}, {half - 1, half - 1, 0, true}, {half, half, 0, true}, {last, last, 0, true},
		{0, 1, 1, true}, {1, 0, -1, true}, {half - 1, half, 1, true}, {half, half - 1, -1, true}, {last - 1, last, 1, true}, {last, last - 1, -1, true},
		{0, half - 2, math.MaxInt64 - 1, true}, {0, half - 1, math.MaxInt64, true}, {0, half, 0, false}, {0, half + 1, 0, false}, {0, last - 1, 0, false}, {0, last, 0, false},
		{half - 2, 0, -math.MaxInt64 + 1, true}, {half - 1, 0, -math.MaxInt64, true}, {half, 0, 0, false}, {half + 1, 0, 0, false}, {last - 1, 0, 0, false}, {last, 0, 0, false},
		{1, half, math.MaxInt64, true}, {1, half + 1, 0, false}, {half, 1, -math.MaxInt64, true}, {half + 1, 1, 0, false},
		{half - 1, last - 1, math.MaxInt64, true}, {half - 1, last, 0, false}, {last - 1, half - 1, -math.MaxInt64, true}, {last, half - 1, 0, false},
		{half, last, math.MaxInt64, true}, {last, half, -math.MaxInt64, true}, {half + 1, last, math.MaxInt64 - 1, true}, {last, half + 1, -math.MaxInt64 + 1, true},
		{1000, 1 << 40, 1<<40 - 1000, true}, {1 << 40, 1000, 1000 - 1<<40, true},
	} {
		t.Run(fmt.Sprint(c.local, " ", c.remote), func(t *testing.T) {
			var s Skew
			wantAdd(t, &s, c.local, c.remote, c.ok)
			if !c.ok {
				wantNone(t, &s)
				return
			}
			wantBound(t, &s, c.want, c.want)
			wantMiddle(t, &s, c.want)
			wantLen(t, &s, 1)
		})
	}
}

// filled is a pair to which so many were added, of either sign.
func filled(t *testing.T, n int) *pair {
	t.Helper()
	p := newPair(t)
	for i := range n {
		p.addAll(int64(i*i%11) - 5)
	}
	return p
}

// TestN1EachWithEach: the edges of times, to a zero one, to one with some, to one that is full, and to one that has gone round.
func TestN1EachWithEach(t *testing.T) {
	for _, n := range []int{0, 1, 5, 15, 16, 17, 20, 31, 32, 33, 100} {
		for _, local := range edgeTimes {
			for _, remote := range edgeTimes {
				filled(t, n).add(local, remote)
			}
		}
		p := filled(t, n)
		for _, local := range edgeTimes {
			for _, remote := range edgeTimes {
				p.add(local, remote)
				p.add(remote, local)
			}
		}
	}
}

// TestN1Refused: what is refused changes nothing, however often it comes, and takes nobody's place.
func TestN1Refused(t *testing.T) {
	refused := [][2]uint64{{0, half}, {half, 0}, {0, last}, {last, 0}, {1, half + 1}, {half + 1, 1}, {half - 1, last}, {last, half - 1}}
	for n := range 50 {
		p := filled(t, n)
		for range 3 {
			for _, x := range refused {
				wantAdd(t, &p.skew, x[0], x[1], false)
				p.wantSame()
			}
		}
		for i := range 20 { // and those that go are those that would have gone
			p.addAll(int64(i) - 10)
			p.add(refused[i%len(refused)][0], refused[i%len(refused)][1])
		}
	}
}

// TestN1Round: as they come from one to many more than there is room for, the first one goes, and then the next one.
func TestN1Round(t *testing.T) {
	var s Skew
	for i := range int64(200) {
		wantAdd(t, &s, 100, uint64(100+i), true)
		first := max(0, i-15)
		wantBound(t, &s, first, i)
		wantMiddle(t, &s, (first+i)/2)
		wantLen(t, &s, int(i-first+1))
	}
	for i := range int64(200) {
		wantAdd(t, &s, uint64(1000+i), 500, true)
		if i >= 15 {
			wantBound(t, &s, -500-i, -500-i+15)
			wantMiddle(t, &s, -500-i+7)
		}
		wantLen(t, &s, 16)
	}
}

// TestN1WhoGoes: the first one goes and no other, be it the least, the greatest, the middle one, or there more than once.
func TestN1WhoGoes(t *testing.T) {
	rest := []int64{4, -7, 12, 0, 4, 9, -1, 30, -22, 5, 5, 17, -3, 8, 1}
	for _, first := range []int64{-100, 100, 4, 5, 0, 30, -22, 17, math.MaxInt64, -math.MaxInt64} {
		for _, more := range []int64{-100, 100, 4, 0, first, math.MaxInt64, -math.MaxInt64} {
			p := newPair(t)
			p.addAll(first)
			p.addAll(rest...)
			p.addAll(more)
			p.addAll(rest...) // all of the first round go, one by one
			p.addAll(first, first, first)
		}
	}
}

// TestN1WhoGoesOfEach: the one that is least, or greatest, stands at any place, and stays till its turn has come.
func TestN1WhoGoesOfEach(t *testing.T) {
	for place := range 40 {
		for _, far := range []int64{-1000, 1000} {
			var s Skew
			for i := range 60 {
				d := int64(i % 3)
				if i == place {
					d = far
				}
				local, remote := timesOf(d, 5)
				wantAdd(t, &s, local, remote, true)
				lo, hi, _ := s.Bound()
				if there := lo == far || hi == far; there != (i >= place && i < place+16) {
					t.Fatalf("%d at place %d, behind Add %d: %v", far, place, i, there)
				}
			}
		}
	}
}

// TestN1Middle: of one to sixteen, as they came sorted, the other way round, by turns of low and high, and all alike.
func TestN1Middle(t *testing.T) {
	for n, want := range []int64{0, 0, 10, 10, 20, 20, 30, 30, 40, 40, 50, 50, 60, 60, 70, 70} {
		up, down, turns, alike := newPair(t), newPair(t), newPair(t), newPair(t)
		for i := range n + 1 {
			up.addAll(int64(i) * 10)
			down.addAll(int64(n-i) * 10)
			turn := i / 2
			if i%2 == 1 {
				turn = n - i/2
			}
			turns.addAll(int64(turn) * 10)
			alike.addAll(-3)
			wantMiddle(t, &alike.skew, -3)
			wantBound(t, &alike.skew, -3, -3)
		}
		for _, p := range []*pair{up, down, turns} {
			wantMiddle(t, &p.skew, want)
			wantBound(t, &p.skew, 0, int64(n)*10)
			wantLen(t, &p.skew, n+1)
		}
	}
}

// TestN1MiddleOfSome: by hand, where some are alike, and of either sign.
func TestN1MiddleOfSome(t *testing.T) {
	for _, c := range []struct {
		differences  []int64
		lo, hi, want int64
	}{
		{[]int64{5}, 5, 5, 5}, {[]int64{-5}, -5, -5, -5},
		{[]int64{5, 6}, 5, 6, 5}, {[]int64{6, 5}, 5, 6, 5}, {[]int64{-6, -5}, -6, -5, -6}, {[]int64{1, -1}, -1, 1, -1},
		{[]int64{9, 1, 9}, 1, 9, 9}, {[]int64{1, 9, 1}, 1, 9, 1}, {[]int64{2, 3, 1}, 1, 3, 2},
		{[]int64{9, 1, 9, 1}, 1, 9, 1}, {[]int64{9, 9, 9, 1}, 1, 9, 9}, {[]int64{4, 3, 2, 1}, 1, 4, 2},
		{[]int64{0, -1, -2, -3, -4}, -4, 0, -2}, {[]int64{8, 8, 1, 1, 5}, 1, 8, 5}, {[]int64{-1, 0, 0, 1, 0, 2}, -1, 2, 0},
		{[]int64{math.MaxInt64, -math.MaxInt64}, -math.MaxInt64, math.MaxInt64, -math.MaxInt64},
		{[]int64{math.MaxInt64, -math.MaxInt64, 0}, -math.MaxInt64, math.MaxInt64, 0},
		{[]int64{math.MaxInt64, math.MaxInt64 - 1, math.MaxInt64}, math.MaxInt64 - 1, math.MaxInt64, math.MaxInt64},
		{[]int64{-math.MaxInt64, -math.MaxInt64 + 1, -math.MaxInt64 + 2, -math.MaxInt64}, -math.MaxInt64, -math.MaxInt64 + 2, -math.MaxInt64},
	} {
		p := newPair(t)
		p.addAll(c.differences...)
		wantBound(t, &p.skew, c.lo, c.hi)
		wantMiddle(t, &p.skew, c.want)
	}
}

// eachOrder does something with each order of the numbers.
func eachOrder(numbers []int64, done int, do func([]int64)) {
	if done == len(numbers) {
		do(numbers)
		return
	}
	for i := done; i < len(numbers); i++ {
		numbers[done], numbers[i] = numbers[i], numbers[done]
		eachOrder(numbers, done+1, do)
		numbers[done], numbers[i] = numbers[i], numbers[done]
	}
}

// TestN1EachOrder: in which order they came does not matter to Bound and Middle.
func TestN1EachOrder(t *testing.T) {
	for _, numbers := range [][]int64{{3}, {1, 2}, {-1, 0, 1}, {5, 5, -2, 9}, {-8, -8, 0, 7, 7}, {6, -5, 4, -3, 2, -1}, {1, 1, 1, 2, 2, 2}, {math.MaxInt64, 3, -math.MaxInt64, 0, 1, 2}} {
		eachOrder(numbers, 0, func(order []int64) {
			p := newPair(t)
			p.addAll(order...)
		})
	}
}

// TestN1EachShortRow: all rows of five of some differences, behind some that are there already, so that these go round at each place.
func TestN1EachShortRow(t *testing.T) {
	times := [][2]uint64{{4, 4}, {4, 5}, {5, 4}, {0, half}, {50, 9}, {9, 50}}
	all := 1
	for range 5 {
		all *= len(times)
	}
	for _, n := range []int{0, 13, 29} {
		for way := range all {
			p := &pair{t: t}
			for i := range n {
				d := int64(i%5) - 2
				p.skew.Add(timesOf(d, 1000))
				p.row.taken = append(p.row.taken, d)
			}
			for left := way; left > 0; left /= len(times) {
				x := times[left%len(times)]
				p.add(x[0], x[1])
			}
			if t.Failed() {
				t.Fatalf("way %d behind %d", way, n)
			}
		}
	}
}

// TestN1Asked: a Skew that is asked behind each Add and one that is asked at the end alone tell the same, and hold the same.
func TestN1Asked(t *testing.T) {
	next := random()
	for n := range 60 {
		var often, once Skew
		for range n {
			local, remote := next()>>40, next()>>40
			often.Add(local, remote)
			once.Add(local, remote)
			for range 3 {
				often.Middle()
				often.Bound()
				often.Len()
				often.Middle()
			}
		}
		if often != once {
			t.Errorf("behind %d: %v, want %v", n, often, once)
		}
	}
}

// anyTimes are two times: near each other, all over, or edges.
func anyTimes(next func() uint64) (local, remote uint64) {
	switch word := next() >> 40; word % 4 {
	case 0:
		return next() >> 56, next() >> 56
	case 1:
		local = next()
		return local, local + next()>>61 - 3
	case 2:
		return edgeTimes[next()>>40%uint64(len(edgeTimes))], edgeTimes[next()>>40%uint64(len(edgeTimes))]
	}
	return next(), next()
}

// TestN1Any: long rows of any times.
func TestN1Any(t *testing.T) {
	next := random()
	for range 100 {
		p := newPair(t)
		for range 200 {
			p.add(anyTimes(next))
		}
	}
}

// TestN1AnyOfAKind: long rows that hold times of one kind alone: few differences, and such as are refused by turns.
func TestN1AnyOfAKind(t *testing.T) {
	next := random()
	few, far := newPair(t), newPair(t)
	for range 3000 {
		few.add(next()>>63, next()>>63)
		far.add(next(), next())
	}
	if n := len(far.row.taken); n < 1000 || n > 2900 {
		t.Errorf("%d of 3000 were taken", n)
	}
}

// TestN1NoFarther: who is never more than so far ahead, or behind, is told to be no farther.
func TestN1NoFarther(t *testing.T) {
	next := random()
	for _, far := range []int64{0, 1, 2, 50, math.MaxInt32, 1 << 61} {
		var s Skew
		for range 200 {
			ahead := int64(next()>>1)%(2*far+1) - far
			local, remote := timesOf(ahead, next()>>8)
			wantAdd(t, &s, local, remote, true)
			lo, hi, _ := s.Bound()
			middle, _ := s.Middle()
			if lo < -far || hi > far || middle < lo || middle > hi {
				t.Fatalf("%d %d %d, want none beyond %d", lo, middle, hi, far)
			}
		}
	}
}

// TestN1Copies: a copy is another one, and goes on by itself.
func TestN1Copies(t *testing.T) {
	for _, n := range []int{0, 3, 16, 21} {
		p := filled(t, n)
		q := &pair{t: t, skew: p.skew, row: row{taken: slices.Clone(p.row.taken)}}
		for i := range int64(20) {
			p.addAll(i)
			q.wantSame()
		}
		for i := range int64(20) {
			q.addAll(-i * 3)
			p.wantSame()
		}
	}
}

// TestN1TwoByTurns: two of them have nothing to do with each other (R3), and the same calls have the same answers (R4).
func TestN1TwoByTurns(t *testing.T) {
	next, again := random(), random()
	one, other, like := newPair(t), newPair(t), newPair(t)
	for range 300 {
		one.add(anyTimes(next))
		other.addAll(int64(len(other.row.taken) % 23))
		like.add(anyTimes(again))
		one.wantSame()
	}
	if one.skew != like.skew || one.skew == other.skew {
		t.Error("the two are not unlike, or the third not like the first")
	}
}
