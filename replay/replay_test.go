package replay

import (
	"fmt"
	"math"
	"slices"
	"testing"

	"hourglass/api"
)

const most32 = math.MaxUint32

// random gives words that are the same in each run.
func random() func() uint64 {
	x := uint64(1)
	return func() uint64 {
		x = x*6364136223846793005 + 1442695040888963407
		return x ^ x>>29
	}
}

// edgeEpochs lie about the least and the largest epoch, and about those that look otherwise as a smaller or a signed number.
var edgeEpochs = []uint32{0, 1, 2, 255, 256, math.MaxUint16, math.MaxUint16 + 1, math.MaxInt32, math.MaxInt32 + 1, most32 - 1, most32}

// numbered is a tag that only one number has.
func numbered(n int) api.Tag {
	tag := api.Tag{0: 0xA0, 15: byte(n)}
	tag[14], tag[3] = byte(n>>8), byte(n>>16)
	return tag
}

// one is a tag of a row, with its epoch.
type one struct {
	epoch uint32
	tag   api.Tag
}

// row is what the chapter says of Tags once more: tags as they came, searched from the beginning.
type row struct {
	has   []one
	most  int
	floor uint32
}

func (r *row) isThere(epoch uint32, tag api.Tag) bool {
	for _, a := range r.has {
		if a.epoch == epoch && a.tag == tag {
			return true
		}
	}
	return false
}

func (r *row) howMany(epoch uint32) int {
	n := 0
	for _, a := range r.has {
		if a.epoch == epoch {
			n++
		}
	}
	return n
}

func (r *row) add(epoch uint32, tag api.Tag) api.Errno {
	if epoch < r.floor {
		return api.ErrEpoch
	}
	if r.isThere(epoch, tag) {
		return api.ErrReplay
	}
	if n := r.howMany(epoch); n >= r.most && n >= 1 {
		return api.ErrFull
	}
	r.has = append(r.has, one{epoch, tag})
	return api.OK
}

func (r *row) expire(before uint32) int {
	if before > r.floor {
		r.floor = before
	}
	had := len(r.has)
	r.has = slices.DeleteFunc(r.has, func(a one) bool { return a.epoch < r.floor })
	return had - len(r.has)
}

// pair is Tags, and the row that they are held against at each step: what they answer of each epoch and tag that was named so far.
type pair struct {
	t      *testing.T
	tags   *Tags
	row    row
	epochs []uint32
	named  []api.Tag
}

func newPair(t *testing.T, most int) *pair {
	p := &pair{t: t, tags: New(most), row: row{most: most}, epochs: []uint32{0, most32}, named: []api.Tag{{}}}
	p.wantSame()
	return p
}

// wantSame asks twice, because asking is no change.
func (p *pair) wantSame() {
	p.t.Helper()
	for range 2 {
		wantFloor(p.t, p.tags, p.row.floor)
		for _, epoch := range p.epochs {
			wantLen(p.t, p.tags, epoch, p.row.howMany(epoch))
			for _, tag := range p.named {
				wantHas(p.t, p.tags, epoch, tag, p.row.isThere(epoch, tag))
			}
		}
	}
}

// name has an epoch and a tag asked for from now on.
func (p *pair) name(epoch uint32, tag api.Tag) {
	if !slices.Contains(p.epochs, epoch) {
		p.epochs = append(p.epochs, epoch)
	}
	if !slices.Contains(p.named, tag) {
		p.named = append(p.named, tag)
	}
}

func (p *pair) add(epoch uint32, tag api.Tag) {
	p.t.Helper()
	p.name(epoch, tag)
	wantAdd(p.t, p.tags, epoch, tag, p.row.add(epoch, tag))
	p.wantSame()
}

func (p *pair) expire(before uint32) {
	p.t.Helper()
	wantExpire(p.t, p.tags, before, p.row.expire(before))
	p.wantSame()
}

func wantHas(t *testing.T, x *Tags, epoch uint32, tag api.Tag, want bool) {
	t.Helper()
	if ok := x.Has(epoch, tag); ok != want {
		t.Errorf("Has(%d, %x): %v, want %v", epoch, tag, ok, want)
	}
}

func wantAdd(t *testing.T, x *Tags, epoch uint32, tag api.Tag, want api.Errno) {
	t.Helper()
	if err := x.Add(epoch, tag); err != want {
		t.Errorf("Add(%d, %x): %v, want %v", epoch, tag, err, want)
	}
}

func wantExpire(t *testing.T, x *Tags, before uint32, want int) {
	t.Helper()
	if n := x.Expire(before); n != want {
		t.Errorf("Expire(%d): %d, want %d", before, n, want)
	}
}

func wantLen(t *testing.T, x *Tags, epoch uint32, want int) {
	t.Helper()
	if n := x.Len(epoch); n != want {
		t.Errorf("Len(%d): %d, want %d", epoch, n, want)
	}
}

func wantFloor(t *testing.T, x *Tags, want uint32) {
	t.Helper()
	if floor := x.Floor(); floor != want {
		t.Errorf("Floor: %d, want %d", floor, want)
	}
}

// TestM1Known is the chapter's example.
func TestM1Known(t *testing.T) {
	for _, most := range []int{-1, 0, 1, 2, 256} {
		x, tag := New(most), api.Tag{1, 2, 3}
		wantAdd(t, x, 1, tag, api.OK)
		wantAdd(t, x, 1, tag, api.ErrReplay)
		wantAdd(t, x, 2, tag, api.OK)
	}
}

// TestM1New: how many of each epoch have room, by most; at first there is none, and no epoch is over.
func TestM1New(t *testing.T) {
	for _, c := range []struct{ most, room int }{
		{math.MinInt, 1}, {math.MinInt + 1, 1}, {math.MinInt32, 1}, {-256, 1}, {-2, 1}, {-1, 1}, {0, 1}, {1, 1},
		{2, 2}, {3, 3}, {4, 4}, {255, 255}, {256, 256}, {257, 257}, {1000, 1000},
	} {
		x := New(c.most)
		wantFloor(t, x, 0)
		for _, epoch := range edgeEpochs {
			wantLen(t, x, epoch, 0)
			wantHas(t, x, epoch, api.Tag{}, false)
			wantHas(t, x, epoch, numbered(0), false)
		}
		for _, epoch := range edgeEpochs {
			for i := range c.room {
				wantAdd(t, x, epoch, numbered(i), api.OK)
				wantLen(t, x, epoch, i+1)
			}
			wantAdd(t, x, epoch, numbered(c.room), api.ErrFull)
			wantLen(t, x, epoch, c.room)
		}
		wantFloor(t, x, 0)
	}
}

// TestM1NewOfTheLargest: there is room for all that comes, and none is taken ahead of it.
func TestM1NewOfTheLargest(t *testing.T) {
	for _, most := range []int{math.MaxInt, math.MaxInt - 1, math.MaxInt32} {
		x := New(most)
		for i := range 3000 {
			wantAdd(t, x, uint32(i%2), numbered(i), api.OK)
		}
		for i := range 3000 {
			wantHas(t, x, uint32(i%2), numbered(i), true)
			wantHas(t, x, uint32(1-i%2), numbered(i), false)
			wantAdd(t, x, uint32(i%2), numbered(i), api.ErrReplay)
		}
		wantLen(t, x, 0, 1500)
		wantLen(t, x, 1, 1500)
		wantExpire(t, x, 1, 1500)
	}
}

// TestM1EachBit: tags that differ in one bit of any byte are others.
func TestM1EachBit(t *testing.T) {
	for _, tag := range []api.Tag{{}, numbered(7), {0: 0xFF, 15: 0x80}} {
		x := New(1000)
		wantAdd(t, x, 5, tag, api.OK)
		for bit := range 8 * len(tag) {
			other := tag
			other[bit/8] ^= 1 << (bit % 8)
			wantHas(t, x, 5, other, false)
			wantAdd(t, x, 5, other, api.OK)
			wantHas(t, x, 5, other, true)
			wantAdd(t, x, 5, other, api.ErrReplay)
			wantLen(t, x, 5, bit+2)
		}
		wantHas(t, x, 5, tag, true)
	}
}

// TestM1EachByte: with all that a byte may be, at each place of a tag.
func TestM1EachByte(t *testing.T) {
	for place := range len(api.Tag{}) {
		x := New(256)
		for b := range 256 {
			tag := numbered(300)
			tag[place] = byte(b)
			wantHas(t, x, 5, tag, false)
			wantAdd(t, x, 5, tag, api.OK)
			wantHas(t, x, 5, tag, true)
		}
		wantLen(t, x, 5, 256)
	}
}

// TestM1EachEpoch: a tag of one epoch is none of another, and each epoch has room of its own.
func TestM1EachEpoch(t *testing.T) {
	p := newPair(t, 1)
	tag := numbered(1)
	for _, epoch := range edgeEpochs {
		p.add(epoch, tag)
		p.add(epoch, tag)
		p.add(epoch, numbered(2))
	}
	x := New(1)
	wantAdd(t, x, 0x01020304, tag, api.OK)
	for bit := range 32 {
		epoch := uint32(0x01020304) ^ 1<<bit
		wantHas(t, x, epoch, tag, false)
		wantLen(t, x, epoch, 0)
		wantAdd(t, x, epoch, tag, api.OK)
		wantHas(t, x, epoch, tag, true)
		wantLen(t, x, epoch, 1)
	}
	wantLen(t, x, 0x01020304, 1)
}

// TestM1ZeroTag: the tag of bytes of 0 is one as all are.
func TestM1ZeroTag(t *testing.T) {
	p := newPair(t, 2)
	for _, tag := range []api.Tag{{}, {}, numbered(1), {}, numbered(2)} {
		p.add(0, tag)
		p.add(3, tag)
	}
	p.expire(3)
	p.add(0, api.Tag{})
	p.add(3, api.Tag{})
}

// TestM1FirstError: where several errors apply, the one that is written first is the answer.
func TestM1FirstError(t *testing.T) {
	for _, most := range []int{-1, 0, 1, 2, 5} {
		p := newPair(t, most)
		room := max(most, 1)
		for i := range room {
			p.add(4, numbered(i))
			p.add(6, numbered(i))
		}
		wantAdd(t, p.tags, 4, numbered(0), api.ErrReplay) // remembered, and full
		wantAdd(t, p.tags, 4, numbered(room-1), api.ErrReplay)
		wantAdd(t, p.tags, 4, numbered(room), api.ErrFull) // full alone
		p.expire(5)
		for i := range room + 1 { // what was remembered, what was full: it is below the floor
			wantAdd(t, p.tags, 4, numbered(i), api.ErrEpoch)
			wantAdd(t, p.tags, 0, numbered(i), api.ErrEpoch)
		}
		wantAdd(t, p.tags, 6, numbered(0), api.ErrReplay)
		wantAdd(t, p.tags, 6, numbered(room), api.ErrFull)
		wantAdd(t, p.tags, 5, numbered(0), api.OK)
	}
}

// TestM1Refused: what is refused changes nothing, however often it comes.
func TestM1Refused(t *testing.T) {
	for _, most := range []int{0, 1, 2, 3, 8} {
		p := newPair(t, most)
		room := max(most, 1)
		p.expire(10)
		for i := range room {
			p.add(10, numbered(i))
		}
		p.add(11, numbered(99))
		for range 4 {
			for _, epoch := range []uint32{0, 1, 9} {
				p.add(epoch, numbered(0))
				p.add(epoch, numbered(50))
			}
			for i := range room + 3 {
				p.add(10, numbered(i))
			}
			p.add(11, numbered(99))
		}
		wantLen(t, p.tags, 10, room)
		wantLen(t, p.tags, 11, 1)
		p.expire(11) // and what was refused is not among those that are forgotten
		p.expire(12)
	}
}

// TestM1RoomAgain: an epoch that is full stays so as long as it is not over, and then it takes none any more; a new epoch has room.
func TestM1RoomAgain(t *testing.T) {
	for _, most := range []int{1, 2, 3, 10} {
		p := newPair(t, most)
		for epoch := uint32(0); epoch < 8; epoch++ {
			for i := range most + 2 {
				p.add(epoch, numbered(i))
			}
			for older := range epoch {
				p.add(older, numbered(most))
			}
			p.expire(epoch / 2)
			p.add(epoch, numbered(most))
			wantLen(t, p.tags, epoch, most)
		}
		p.expire(8)
		for epoch := range uint32(10) {
			p.add(epoch, numbered(most))
		}
	}
}

// TestM1Replay: no tag of an epoch is added twice, whatever comes in between.
func TestM1Replay(t *testing.T) {
	const most, epochs = 4, 3
	x, added := New(most), map[one]int{}
	next := random()
	for range 5000 {
		a := one{uint32(next() >> 40 % epochs), numbered(int(next() >> 40 % 6))}
		if x.Add(a.epoch, a.tag) == api.OK {
			added[a]++
		}
	}
	if len(added) != most*epochs {
		t.Errorf("%d were added, want %d", len(added), most*epochs)
	}
	for a, n := range added {
		if n != 1 {
			t.Errorf("%v was added %d times", a, n)
		}
		for range 3 {
			wantAdd(t, x, a.epoch, a.tag, api.ErrReplay)
			wantHas(t, x, a.epoch, a.tag, true)
		}
	}
}

// around is a pair of which epochs here and there have as many tags as the place in the list tells.
func around(t *testing.T, floor uint32) *pair {
	p := newPair(t, 20)
	p.expire(floor)
	for n, epoch := range []uint32{0, 1, 9, 10, 11, 12, 13, 500, most32 - 1, most32} {
		for i := range n + 1 {
			p.add(epoch, numbered(i))
		}
	}
	return p
}

// TestM1Expire: the floor, how many are forgotten, and who stays, by where before is and where the floor was.
func TestM1Expire(t *testing.T) {
	for _, c := range []struct {
		floor, before, want uint32
		gone                int
	}{
		{0, 0, 0, 0}, {0, 1, 1, 1}, {0, 2, 2, 3}, {0, 9, 9, 3}, {0, 10, 10, 6}, {0, 11, 11, 10}, {0, 499, 499, 28}, {0, 500, 500, 28}, {0, 501, 501, 36},
		{0, most32 - 1, most32 - 1, 36}, {0, most32, most32, 45},
		{10, 0, 10, 0}, {10, 1, 10, 0}, {10, 9, 10, 0}, {10, 10, 10, 0}, {10, 11, 11, 4}, {10, 12, 12, 9}, {10, 13, 13, 15},
		{10, 1000, 1000, 30}, {10, math.MaxInt32, math.MaxInt32, 30}, {10, math.MaxInt32 + 1, math.MaxInt32 + 1, 30}, {10, most32 - 1, most32 - 1, 30}, {10, most32, most32, 39},
		{most32 - 1, 5, most32 - 1, 0}, {most32 - 1, most32 - 2, most32 - 1, 0}, {most32 - 1, most32 - 1, most32 - 1, 0}, {most32 - 1, most32, most32, 9},
		{most32, 0, most32, 0}, {most32, most32 - 1, most32, 0}, {most32, most32, most32, 0},
	} {
		t.Run(fmt.Sprint(c.floor, " ", c.before), func(t *testing.T) {
			p := around(t, c.floor)
			wantFloor(t, p.tags, c.floor)
			wantExpire(t, p.tags, c.before, c.gone)
			wantFloor(t, p.tags, c.want)
			p.row.expire(c.before)
			p.wantSame()
			for range 2 {
				wantExpire(t, p.tags, c.before, 0) // none is left to forget
				p.wantSame()
			}
			for _, epoch := range p.epochs {
				p.add(epoch, numbered(0))
				p.add(epoch, numbered(77))
			}
		})
	}
}

// TestM1ExpireOfNone: the floor moves though there is nothing to forget, and never down.
func TestM1ExpireOfNone(t *testing.T) {
	x, floor := New(3), uint32(0)
	for _, before := range []uint32{0, 1, 1, 0, 7, 6, 8, 3, math.MaxInt32, 8, math.MaxInt32 + 1, most32 - 1, 0, most32, most32 - 1, most32, 0} {
		floor = max(floor, before)
		wantExpire(t, x, before, 0)
		wantFloor(t, x, floor)
		if floor > 0 {
			wantAdd(t, x, floor-1, numbered(1), api.ErrEpoch)
			wantLen(t, x, floor-1, 0)
		}
	}
}

// TestM1AddAboutTheFloor: below it, at it, and above it.
func TestM1AddAboutTheFloor(t *testing.T) {
	for _, floor := range edgeEpochs {
		p := newPair(t, 2)
		p.expire(floor)
		for i := range 3 {
			for _, epoch := range []uint32{floor - 2, floor - 1, floor, floor + 1, floor + 2, 0, most32} { // where there is none, it is wrapped round: any epoch will do
				p.add(epoch, numbered(i))
			}
		}
		p.expire(floor)
		p.expire(0)
		p.expire(max(floor, floor+1)) // the largest stays where it is
		p.expire(most32)
		wantLen(t, p.tags, most32, 2) // there is no epoch behind it, so it is never over
	}
}

// TestM1BehindAnExpire: what was forgotten is not remembered, and its epoch takes none of it any more.
func TestM1BehindAnExpire(t *testing.T) {
	p := newPair(t, 3)
	for epoch := range uint32(6) {
		for i := range 3 {
			p.add(epoch, numbered(i))
		}
	}
	for _, before := range []uint32{2, 1, 2, 4, 0, 5, 6, 6, 7} {
		p.expire(before)
		for epoch := range uint32(8) {
			p.add(epoch, numbered(0))
			p.add(epoch, numbered(4))
		}
	}
	wantLen(t, p.tags, 7, 2)
	wantLen(t, p.tags, 6, 0)
}

// TestM1NothingIsKept: neither what is over, nor what was only asked for or refused, takes room.
func TestM1NothingIsKept(t *testing.T) {
	x := New(2)
	for epoch := range uint32(1000) {
		for i := range 2 {
			x.Add(epoch, numbered(i))
		}
		x.Expire(epoch)
		for i := range 5 {
			x.Has(epoch+5000, numbered(i))
			x.Len(epoch + 5000)
			x.Add(epoch, numbered(i))
			x.Add(epoch/2, numbered(i)) // over, but for the first epoch, which it is itself
		}
		if len(x.seen) != 2 || len(x.count) != 1 {
			t.Fatalf("epoch %d: %d tags of %d epochs are kept, want 2 of 1", epoch, len(x.seen), len(x.count))
		}
	}
	x.Expire(1000)
	if len(x.seen) != 0 || len(x.count) != 0 {
		t.Errorf("%d tags of %d epochs are kept, want none", len(x.seen), len(x.count))
	}
}

// TestM1EachShortRow: all that can be done in five steps with three tags in two epochs, with room for one and for two of each.
func TestM1EachShortRow(t *testing.T) {
	const steps, kinds = 5, 8
	all := 1
	for range steps {
		all *= kinds
	}
	for way := range 2 * all {
		p := newPair(t, 1+way/all)
		p.epochs, p.named = []uint32{0, 1}, []api.Tag{numbered(0), numbered(1), numbered(2)}
		for left, step := way, 0; step < steps; step++ {
			if kind := left % kinds; kind < 6 {
				p.add(uint32(kind/3), numbered(kind%3))
			} else {
				p.expire(uint32(kind - 5))
			}
			left /= kinds
		}
		if t.Failed() {
			t.Fatalf("way %d of %d", way, 2*all)
		}
	}
}

// anyStep does one of all that can be done, about epochs that slowly rise.
func (p *pair) anyStep(word uint64, step, tags int) {
	p.t.Helper()
	epoch := uint32(step/40) + uint32(word>>8%5)
	switch kind := word >> 16 % 32; kind {
	case 0:
		p.expire(epoch)
	case 1:
		p.expire(uint32(step / 40))
	case 2:
		p.expire(uint32(word >> 32 % 4))
	default:
		p.add(epoch, numbered(int(word>>24)%tags))
	}
}

// TestM1Any: Add and Expire in any order, with tags for which there is room and with more of them.
func TestM1Any(t *testing.T) {
	next := random()
	for _, most := range []int{-1, 1, 2, 3, 7, 20} {
		for _, tags := range []int{1, 2, 5, 30} {
			p := newPair(t, most)
			for step := range 400 {
				p.anyStep(next(), step, tags)
			}
			p.expire(most32)
		}
	}
}

// TestM1AnyEpochs: epochs from all over, so that the floor leaps.
func TestM1AnyEpochs(t *testing.T) {
	next := random()
	for range 30 {
		p := newPair(t, 2)
		for range 60 {
			epoch := edgeEpochs[next()>>40%uint64(len(edgeEpochs))]
			if next()>>40%12 == 0 {
				p.expire(epoch)
			} else {
				p.add(epoch, numbered(int(next()>>40%4)))
			}
		}
	}
}

// TestM1Many: as many as a node remembers of each of many epochs.
func TestM1Many(t *testing.T) {
	x := New(api.MaxTags)
	for epoch := range uint32(100) {
		for i := range api.MaxTags {
			wantAdd(t, x, epoch, numbered(i*3), api.OK)
		}
		wantAdd(t, x, epoch, numbered(1), api.ErrFull)
	}
	for epoch := range uint32(100) {
		for i := range api.MaxTags {
			wantHas(t, x, epoch, numbered(i*3), true)
			wantHas(t, x, epoch, numbered(i*3+1), false)
		}
		wantLen(t, x, epoch, api.MaxTags)
	}
	wantExpire(t, x, 30, 30*api.MaxTags)
	wantExpire(t, x, 31, api.MaxTags)
	wantExpire(t, x, 200, 69*api.MaxTags)
}

// TestM1WrittenOver: who handed a tag in may write over it (R1).
func TestM1WrittenOver(t *testing.T) {
	x, tag := New(3), numbered(1)
	wantAdd(t, x, 1, tag, api.OK)
	tag[0] ^= 1
	wantHas(t, x, 1, tag, false)
	wantAdd(t, x, 1, tag, api.OK)
	wantHas(t, x, 1, numbered(1), true)
	wantLen(t, x, 1, 2)
}

// TestM1TwoByTurns: two of them have nothing to do with each other (R3), and the same calls have the same answers (R4).
func TestM1TwoByTurns(t *testing.T) {
	next := random()
	few, many, again := newPair(t, 2), newPair(t, 9), newPair(t, 2)
	for step := range 600 {
		word := next()
		few.anyStep(word, step, 5)
		many.anyStep(next(), step/3, 12)
		again.anyStep(word, step, 5)
	}
	if few.tags.Floor() == many.tags.Floor() || !slices.Equal(few.row.has, again.row.has) {
		t.Error("the two are not unlike, or the third not like the first")
	}
}
