package heap

import (
	"math"
	"runtime"
	"slices"
	"testing"
	"weak"

	"hourglass/api"
)

const most64 = math.MaxUint64

// random gives words that are the same in each run.
func random() func() uint64 {
	x := uint64(1)
	return func() uint64 {
		x = x*6364136223846793005 + 1442695040888963407
		return x ^ x>>29
	}
}

// edgeTicks lie about the least and the largest tick, and about those that look otherwise as a smaller or a signed number.
var edgeTicks = []uint64{0, 1, 2, 255, 256, math.MaxInt32, math.MaxInt32 + 1, math.MaxUint32, math.MaxUint32 + 1, math.MaxInt64, math.MaxInt64 + 1, most64 - 1, most64}

// numbered is a thing of a row.
type numbered struct {
	tick, number uint64
	x            int
}

// row is what the chapter says of a heap once more: things as they went in, searched from the beginning.
type row struct {
	has   []numbered
	most  int
	given uint64
}

func (r *row) push(tick uint64, x int) (uint64, api.Errno) {
	if len(r.has) >= r.most && len(r.has) >= 1 {
		return 0, api.ErrFull
	}
	r.has = append(r.has, numbered{tick, r.given, x})
	r.given++
	return r.given - 1, api.OK
}

// first is where the first one stands, or -1.
func (r *row) first() int {
	first := -1
	for i, a := range r.has {
		if first < 0 || a.tick < r.has[first].tick {
			first = i
		}
	}
	return first
}

func (r *row) pop(now uint64) (int, uint64, bool) {
	i := r.first()
	if i < 0 || r.has[i].tick > now {
		return 0, 0, false
	}
	a := r.has[i]
	r.has = slices.Delete(r.has, i, i+1)
	return a.x, a.tick, true
}

func (r *row) next() (uint64, bool) {
	if i := r.first(); i >= 0 {
		return r.has[i].tick, true
	}
	return 0, false
}

// pair is a heap, and the row that it is held against at each step.
type pair struct {
	t     *testing.T
	heap  *Heap[int]
	row   row
	steps int // each push, be there room or not, has a thing of its own
}

func newPair(t *testing.T, most int) *pair {
	p := &pair{t: t, heap: New[int](most), row: row{most: most}}
	p.wantSame()
	return p
}

// wantSame holds what can be asked without a change against the row, twice, because asking is no change.
func (p *pair) wantSame() {
	p.t.Helper()
	tick, any := p.row.next()
	for range 2 {
		wantNext(p.t, p.heap, tick, any)
		wantLen(p.t, p.heap, len(p.row.has))
	}
}

func (p *pair) push(tick uint64) {
	p.t.Helper()
	p.steps++
	x := 1000 + p.steps
	want, wantErr := p.row.push(tick, x)
	wantPush(p.t, p.heap, tick, x, want, wantErr)
	p.wantSame()
}

func (p *pair) pop(now uint64) {
	p.t.Helper()
	want, wantTick, any := p.row.pop(now)
	x, tick, ok := p.heap.Pop(now)
	if x != want || tick != wantTick || ok != any {
		p.t.Errorf("Pop(%d): %d, %d, %v, want %d, %d, %v", now, x, tick, ok, want, wantTick, any)
	}
	p.wantSame()
}

// empty takes out all that is left, and once more.
func (p *pair) empty() {
	p.t.Helper()
	for len(p.row.has) > 0 {
		p.pop(most64)
	}
	p.pop(most64)
}

func wantPush[T any](t *testing.T, h *Heap[T], tick uint64, x T, want uint64, wantErr api.Errno) {
	t.Helper()
	if number, err := h.Push(tick, x); number != want || err != wantErr {
		t.Errorf("Push(%d, %v): %d, %v, want %d, %v", tick, x, number, err, want, wantErr)
	}
}

func wantPop[T comparable](t *testing.T, h *Heap[T], now uint64, want T, wantTick uint64) {
	t.Helper()
	if x, tick, ok := h.Pop(now); x != want || tick != wantTick || !ok {
		t.Errorf("Pop(%d): %v, %d, %v, want %v, %d, true", now, x, tick, ok, want, wantTick)
	}
}

func wantNone[T comparable](t *testing.T, h *Heap[T], now uint64) {
	t.Helper()
	var none T
	if x, tick, ok := h.Pop(now); x != none || tick != 0 || ok {
		t.Errorf("Pop(%d): %v, %d, %v, want %v, 0, false", now, x, tick, ok, none)
	}
}

func wantNext[T any](t *testing.T, h *Heap[T], want uint64, any bool) {
	t.Helper()
	if tick, ok := h.Next(); tick != want || ok != any {
		t.Errorf("Next: %d, %v, want %d, %v", tick, ok, want, any)
	}
}

func wantLen[T any](t *testing.T, h *Heap[T], want int) {
	t.Helper()
	if n := h.Len(); n != want {
		t.Errorf("Len: %d, want %d", n, want)
	}
}

// TestL1Known is the chapter's example.
func TestL1Known(t *testing.T) {
	h := New[string](3)
	wantPush(t, h, 5, "a", 0, api.OK)
	wantPush(t, h, 3, "b", 1, api.OK)
	wantPush(t, h, 5, "c", 2, api.OK)
	wantPop(t, h, 9, "b", 3)
	wantPop(t, h, 9, "a", 5)
	wantPop(t, h, 9, "c", 5)
	wantNone(t, h, 9)
	wantLen(t, h, 0)
}

// TestL1New: how many have room, by most.
func TestL1New(t *testing.T) {
	for _, c := range []struct{ most, room int }{
		{math.MinInt, 1}, {math.MinInt + 1, 1}, {math.MinInt32, 1}, {-64, 1}, {-2, 1}, {-1, 1}, {0, 1}, {1, 1},
		{2, 2}, {3, 3}, {4, 4}, {63, 63}, {64, 64}, {65, 65}, {1000, 1000},
	} {
		h := New[int](c.most)
		wantLen(t, h, 0)
		wantNext(t, h, 0, false)
		wantNone(t, h, most64)
		for i := range c.room {
			wantPush(t, h, 7, i, uint64(i), api.OK)
			wantLen(t, h, i+1)
		}
		wantPush(t, h, 7, -1, 0, api.ErrFull)
		wantLen(t, h, c.room)
		for i := range c.room {
			wantPop(t, h, 7, i, 7)
		}
		wantNone(t, h, most64)
	}
}

// TestL1NewOfTheLargest: there is room for all that comes, and none is taken ahead of it.
func TestL1NewOfTheLargest(t *testing.T) {
	for _, most := range []int{math.MaxInt, math.MaxInt - 1, math.MaxInt32} {
		p := newPair(t, most)
		for i := range 300 {
			p.push(uint64(i * 7919 % 300))
		}
		p.empty()
	}
}

// TestL1Full: what has no room changes nothing, however often and with whatever tick it comes.
func TestL1Full(t *testing.T) {
	for _, most := range []int{-5, 0, 1, 2, 3, 7, 64} {
		for tries := range 4 {
			p := newPair(t, most)
			for i := range max(most, 1) {
				p.push(uint64(10 + i*5%7))
			}
			for range tries {
				for _, tick := range []uint64{0, 10, 12, most64} { // ahead of all, among them, and behind all
					wantPush(t, p.heap, tick, -1, 0, api.ErrFull)
					p.wantSame()
				}
			}
			p.pop(most64)
			p.push(11) // its number is the one that it would have been
			p.push(0)  // and there is room for this one alone
			p.empty()
			p.push(3)
			p.empty()
		}
	}
}

// TestL1FullAndNothingPopped: a Pop that answers none makes no room.
func TestL1FullAndNothingPopped(t *testing.T) {
	h := New[int](2)
	wantPush(t, h, 5, 50, 0, api.OK)
	wantPush(t, h, 6, 60, 1, api.OK)
	wantNone(t, h, 4)
	wantPush(t, h, 5, 51, 0, api.ErrFull)
	wantPop(t, h, 5, 50, 5)
	wantPush(t, h, 5, 52, 2, api.OK)
	wantPush(t, h, 5, 53, 0, api.ErrFull)
	wantPop(t, h, 5, 52, 5)
	wantNone(t, h, 5)
	wantPop(t, h, 6, 60, 6)
	wantPush(t, h, 1, 10, 3, api.OK)
}

// TestL1Numbers: each is given once, also if the heap is empty again, whatever the ticks are.
func TestL1Numbers(t *testing.T) {
	for _, most := range []int{1, 2, 3, 10} {
		h := New[uint64](most)
		next := uint64(0)
		for round := range 200 {
			for range round%most + 1 {
				wantPush(t, h, uint64(500-round), next, next, api.OK)
				next++
			}
			for h.Len() > 0 {
				h.Pop(most64)
			}
		}
	}
}

// TestL1PopOfEmpty: of one that has had nothing yet, and of one that has nothing any more.
func TestL1PopOfEmpty(t *testing.T) {
	h := New[int](3)
	for i := range 3 {
		for _, now := range edgeTicks {
			wantNone(t, h, now)
			wantNext(t, h, 0, false)
			wantLen(t, h, 0)
		}
		wantPush(t, h, 7, 9, uint64(i), api.OK) // none of the calls above took a number
		wantPop(t, h, 7, 9, 7)
	}
}

// TestL1PopByNow: the first one's tick is above now, is now, and is below now.
func TestL1PopByNow(t *testing.T) {
	for _, tick := range edgeTicks {
		for _, now := range []uint64{tick - 1, tick, tick + 1, 0, most64} { // where there is none above or below, it is wrapped round: any now will do
			h := New[int](4)
			h.Push(most64, 8)
			h.Push(tick, 7)
			first, last := 7, 8
			if tick == most64 {
				first, last = 8, 7
			}
			if tick > now {
				for range 3 {
					wantNone(t, h, now)
					wantLen(t, h, 2)
					wantNext(t, h, tick, true)
				}
			} else {
				wantPop(t, h, now, first, tick)
				wantLen(t, h, 1)
				wantNext(t, h, most64, true)
				wantPush(t, h, most64, 9, 2, api.OK)
				wantPop(t, h, most64, last, most64)
				wantPop(t, h, most64, 9, most64)
				wantNone(t, h, most64)
			}
		}
	}
}

// TestL1PopStops: the first one alone is asked for its tick, and those behind it wait though there is nothing ahead of them any more.
func TestL1PopStops(t *testing.T) {
	p := newPair(t, 10)
	for _, tick := range []uint64{30, 10, 20, 40, 10, 21} {
		p.push(tick)
	}
	for _, now := range []uint64{0, 9, 10, 10, 10, 19, 20, 20, 21, 21, 29, 31, 31, 39, 41, 41, 99} {
		p.pop(now)
	}
	wantLen(t, p.heap, 0)
}

// TestL1TicksAtTheEdges: the least and the largest tick come out in order too, whoever went in first.
func TestL1TicksAtTheEdges(t *testing.T) {
	for turn := range edgeTicks {
		p := newPair(t, 100)
		for i := range edgeTicks {
			p.push(edgeTicks[(i*5+turn)%len(edgeTicks)])
			p.push(edgeTicks[(i*8+turn)%len(edgeTicks)])
		}
		for _, now := range edgeTicks {
			p.pop(now)
			p.pop(now)
			p.pop(now)
		}
		p.empty()
	}
}

// TestL1OneTick: things of one tick come out as they went in, alone and with others ahead of them and behind them.
func TestL1OneTick(t *testing.T) {
	for _, n := range []int{1, 2, 3, 4, 5, 6, 7, 8, 15, 16, 17, 31, 33, 64, 100, 300} {
		alone, among := New[int](n), New[int](3*n)
		for i := range n {
			alone.Push(50, i)
			among.Push(uint64(100-i%50), -1)
			among.Push(50, i)
			among.Push(uint64(i%50), -1)
		}
		for i := range n {
			wantPop(t, alone, 50, i, 50)
		}
		for range n {
			among.Pop(49)
		}
		wantNone(t, among, 49)
		for i := range n {
			wantPop(t, among, 50, i, 50)
		}
		wantNone(t, among, 50)
		wantLen(t, among, n)
	}
}

// TestL1OneTickInBetween: some are popped, others pushed, and those of one tick are told apart by their numbers alone.
func TestL1OneTickInBetween(t *testing.T) {
	for _, n := range []int{1, 2, 3, 4, 5, 7, 10, 20, 50} {
		for pops := 1; pops <= n; pops++ {
			p := newPair(t, 4*n)
			for round := range 6 {
				for i := range n {
					p.push(50)
					if i%3 == 0 {
						p.push(uint64(49 + 2*(round%2)))
					}
				}
				for range pops {
					p.pop(50)
				}
			}
			p.empty()
		}
	}
}

// TestL1Orders: ticks that rise, fall, are all the same, go up and down, and are any.
func TestL1Orders(t *testing.T) {
	next := random()
	for name, tick := range map[string]func(i int) uint64{
		"rising":         func(i int) uint64 { return uint64(i) },
		"falling":        func(i int) uint64 { return uint64(1000 - i) },
		"falling pairs":  func(i int) uint64 { return uint64(1000 - i/2) },
		"all the same":   func(int) uint64 { return 5 },
		"two by turns":   func(i int) uint64 { return uint64(i % 2) },
		"up and down":    func(i int) uint64 { return uint64((i*37 ^ 0x55) % 101) },
		"few":            func(int) uint64 { return next() >> 40 % 4 },
		"any":            func(int) uint64 { return next() },
		"from both ends": func(i int) uint64 { return uint64(i) * -uint64(i%2) },
	} {
		t.Run(name, func(t *testing.T) {
			for _, n := range []int{0, 1, 2, 3, 4, 5, 6, 7, 8, 9, 15, 16, 17, 30, 31, 32, 33, 64, 127, 128, 300, 500} {
				p := newPair(t, n)
				for i := range n {
					p.push(tick(i))
				}
				p.empty()
			}
		})
	}
}

// TestL1EachShortRow: all that can be done in seven steps with three ticks, in a heap for three.
func TestL1EachShortRow(t *testing.T) {
	const steps, kinds = 7, 5
	all := 1
	for range steps {
		all *= kinds
	}
	for way := range all {
		p := newPair(t, 3)
		for range steps {
			switch kind := uint64(way % kinds); kind {
			case 0, 1, 2:
				p.push(kind)
			case 3:
				p.pop(most64)
			case 4:
				p.pop(1)
			}
			way /= kinds
		}
		p.empty()
		if t.Failed() {
			t.Fatalf("way %d of %d", way, all)
		}
	}
}

// TestL1EachOrder: seven things, each of which comes at each place.
func TestL1EachOrder(t *testing.T) {
	var try func(ahead, left []uint64)
	try = func(ahead, left []uint64) {
		if len(left) > 0 {
			for i, tick := range left {
				try(append(slices.Clone(ahead), tick), slices.Delete(slices.Clone(left), i, i+1))
			}
			return
		}
		p := newPair(t, len(ahead))
		for _, tick := range ahead {
			p.push(tick)
		}
		p.empty()
	}
	try(nil, []uint64{1, 2, 3, 3, 3, 4, 5})
}

// TestL1Any: Push and Pop in any order, for heaps of few and of many, near their room and far from it.
func TestL1Any(t *testing.T) {
	next := random()
	for _, most := range []int{1, 2, 3, 4, 5, 8, 17, 64, 200, 400} {
		for _, ticks := range []uint64{1, 2, 5, 100, most64} {
			for _, pushes := range []uint64{3, 4, 5, 8} { // of nine steps
				p := newPair(t, most)
				for range min(20*most, 1500) {
					tick := next() >> 8 % ticks
					switch {
					case next()>>20%9 < pushes:
						p.push(tick)
					case next()>>20%2 == 0:
						p.pop(tick)
					default:
						p.pop(most64)
					}
				}
				p.empty()
				if t.Failed() {
					t.Fatalf("in a heap of %d, of %d ticks", most, ticks)
				}
			}
		}
	}
}

// TestL1AsTimeGoes: now rises, what comes goes a while later, and all that is due comes out at each tick, as at a node.
func TestL1AsTimeGoes(t *testing.T) {
	next := random()
	p := newPair(t, api.MaxHeap)
	for now := range uint64(500) {
		for range next() >> 30 % 8 {
			p.push(now + next()>>30%20)
		}
		for tick, ok := p.row.next(); ok && tick <= now; tick, ok = p.row.next() {
			p.pop(now)
		}
		p.pop(now) // none
	}
	p.empty()
}

// TestL1TwoByTurns (R3): each has its own things, its own numbers and its own room.
func TestL1TwoByTurns(t *testing.T) {
	next := random()
	one, two, other := newPair(t, 5), newPair(t, 50), New[string](2)
	for i := range 500 {
		one.push(next() >> 8 % 9)
		two.push(next() >> 8 % 9)
		wantPush(t, other, uint64(i), "x", uint64(i), api.OK)
		if next()>>30%2 == 0 {
			one.pop(next() >> 8 % 9)
			two.pop(next() >> 8 % 9)
		}
		wantPop(t, other, uint64(i), "x", uint64(i))
		one.wantSame()
		two.wantSame()
	}
	one.empty()
	two.wantSame()
	two.empty()
}

// letter is a thing that no == tells apart.
type letter struct {
	to   int
	text []byte
}

func wantLetter(t *testing.T, h *Heap[letter], now uint64, to int, text string) {
	t.Helper()
	if x, _, ok := h.Pop(now); x.to != to || string(x.text) != text || !ok {
		t.Errorf("Pop(%d): %v, %v, want %d, %q, true", now, x, ok, to, text)
	}
}

func TestL1OfStructs(t *testing.T) {
	h := New[letter](3)
	mine := letter{1, []byte("one")}
	h.Push(5, mine)
	mine.to, mine.text = 2, []byte("two") // the heap has what it was handed
	h.Push(4, mine)
	mine = letter{}
	if x, tick, ok := h.Pop(3); x.to != 0 || x.text != nil || tick != 0 || ok {
		t.Errorf("Pop(3): %v, %d, %v", x, tick, ok)
	}
	wantLetter(t, h, 4, 2, "two")
	h.Push(5, letter{3, nil})
	wantLetter(t, h, 5, 1, "one")
	wantLetter(t, h, 5, 3, "")
	if x, tick, ok := h.Pop(5); x.to != 0 || x.text != nil || tick != 0 || ok {
		t.Errorf("Pop(5): %v, %d, %v", x, tick, ok)
	}
}

// TestL1OfPointers: it is the pointer that comes out, not one to something that looks the same; nil is a thing too.
func TestL1OfPointers(t *testing.T) {
	h := New[*letter](9)
	a, b := &letter{to: 1}, &letter{to: 1}
	for i, x := range []*letter{a, b, nil, a} {
		wantPush(t, h, 5, x, uint64(i), api.OK)
	}
	a.to = 7
	wantNone(t, h, 4)
	for _, x := range []*letter{a, b, nil, a} {
		wantPop(t, h, 5, x, 5)
	}
	wantNone(t, h, 5)
}

// TestL1OfOthers: things that have nothing to say, are large, or are of any type at all.
func TestL1OfOthers(t *testing.T) {
	nothing := New[struct{}](2)
	wantPush(t, nothing, 2, struct{}{}, 0, api.OK)
	wantPush(t, nothing, 1, struct{}{}, 1, api.OK)
	wantPush(t, nothing, 1, struct{}{}, 0, api.ErrFull)
	wantPop(t, nothing, 2, struct{}{}, 1)
	wantPop(t, nothing, 2, struct{}{}, 2)
	wantNone(t, nothing, 2)

	packets := New[api.Packet](3)
	for i := range 3 {
		wantPush(t, packets, uint64(5-i), api.Packet{Who: api.Who(i), Body: [256]byte{255: byte(i)}}, uint64(i), api.OK)
	}
	for i := range 3 {
		wantPop(t, packets, 9, api.Packet{Who: api.Who(2 - i), Body: [256]byte{255: byte(2 - i)}}, uint64(3+i))
	}

	anything := New[any](4)
	wantPush[any](t, anything, 3, "text", 0, api.OK)
	wantPush[any](t, anything, 2, 7, 1, api.OK)
	wantPush[any](t, anything, 2, nil, 2, api.OK)
	wantPush[any](t, anything, 1, []int{1}, 3, api.OK) // which can't be held against another by ==
	if x, tick, ok := anything.Pop(1); tick != 1 || !ok || !slices.Equal(x.([]int), []int{1}) {
		t.Errorf("Pop(1): %v, %d, %v", x, tick, ok)
	}
	wantPop[any](t, anything, 3, 7, 2)
	wantPop[any](t, anything, 3, nil, 2)
	wantPop[any](t, anything, 3, "text", 3)
	wantNone(t, anything, 3)
}

// TestL1WhatWentIsCleared: a heap keeps nothing of what came out, nor of what had no room, alive.
func TestL1WhatWentIsCleared(t *testing.T) {
	const n = 20
	h := New[*letter](n)
	var marks []weak.Pointer[letter]
	push := func(tick uint64) {
		x := &letter{text: make([]byte, 100)}
		marks = append(marks, weak.Make(x))
		h.Push(tick, x)
	}
	for i := range n {
		push(uint64(i * 7 % n)) // so the thing of tick i*7%n has mark i
	}
	push(0) // no room
	for range n / 2 {
		h.Pop(most64)
	}
	runtime.GC()
	for i, mark := range marks {
		stays := i < n && i*7%n >= n/2
		if there := mark.Value() != nil; there != stays {
			t.Errorf("thing %d is there: %v, want %v", i, there, stays)
		}
	}
	wantLen(t, h, n/2)
	runtime.KeepAlive(h)
}
