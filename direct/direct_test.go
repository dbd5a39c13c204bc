package direct

import (
	"bytes"
	"crypto/sha256"
	"encoding/hex"
	"math"
	"slices"
	"testing"

	"hourglass/api"
)

const lastEpoch = math.MaxUint32

// filled tells a directory of these records, that come in this order.
func filled(t *testing.T, records ...Record) *Directory {
	t.Helper()
	d := New()
	for _, r := range records {
		if err := d.Add(r); err != api.OK {
			t.Fatalf("Add%v: %v", r, err)
		}
	}
	return d
}

// full tells as many records as there may be, with none in the epochs 1, 3, 5 and so on: all of one node, or as many of each.
func full(nodes int) []Record {
	var records []Record
	for i := range 64 {
		epoch := uint32(i/nodes) * 2
		records = append(records, Record{Addr: api.Addr(i % nodes), From: epoch, To: epoch, Link: uint32(i)})
	}
	return records
}

// inOrder tells records by rising Addr, and those of one Addr by rising From.
func inOrder(records []Record) []Record {
	sorted := slices.Clone(records)
	slices.SortFunc(sorted, func(a, b Record) int {
		if a.Addr != b.Addr {
			return int(a.Addr) - int(b.Addr)
		}
		return int(int64(a.From) - int64(b.From))
	})
	return sorted
}

// row tells the fourteen bytes of a record.
func row(r Record) []byte {
	b := []byte{byte(r.Addr >> 8), byte(r.Addr)}
	for _, n := range []uint32{r.From, r.To, r.Link} {
		b = append(b, byte(n>>24), byte(n>>16), byte(n>>8), byte(n))
	}
	return b
}

func rows(records ...Record) []byte {
	var b []byte
	for _, r := range records {
		b = append(b, row(r)...)
	}
	return b
}

// sealed tells bytes with their right sum behind them.
func sealed(b []byte) []byte {
	sum := sha256.Sum256(b)
	return append(slices.Clone(b), sum[:]...)
}

func written(records ...Record) []byte { return sealed(rows(inOrder(records)...)) }

func wantAdd(t *testing.T, d *Directory, r Record, want api.Errno) {
	t.Helper()
	if err := d.Add(r); err != want {
		t.Errorf("Add%v: %v, want %v", r, err, want)
	}
}

func wantFind(t *testing.T, d *Directory, addr api.Addr, epoch uint32, want Record) {
	t.Helper()
	if r, ok := d.Find(addr, epoch); r != want || !ok {
		t.Errorf("Find(%d, %d): %v, %v, want %v", addr, epoch, r, ok, want)
	}
}

func wantNone(t *testing.T, d *Directory, addr api.Addr, epoch uint32) {
	t.Helper()
	if r, ok := d.Find(addr, epoch); r != (Record{}) || ok {
		t.Errorf("Find(%d, %d): %v, %v, want none", addr, epoch, r, ok)
	}
}

func wantValid(t *testing.T, d *Directory, epoch uint32, want ...Record) {
	t.Helper()
	if records := d.Valid(epoch); !slices.Equal(records, want) {
		t.Errorf("Valid(%d): %v, want %v", epoch, records, want)
	}
}

// edges are all epochs at which something changes for one of these records, with those beside them, and the first and the last epoch that there is.
func edges(records []Record) []uint32 {
	epochs := []uint32{0, lastEpoch}
	for _, r := range records {
		for _, epoch := range []uint32{r.From, r.To} {
			epochs = append(epochs, epoch-1, epoch, epoch+1) // beyond both ends it goes round: that is an epoch too
		}
	}
	slices.Sort(epochs)
	return slices.Compact(epochs)
}

// wantHolds asks all that a directory answers, at each epoch at which it may change.
func wantHolds(t *testing.T, d *Directory, records ...Record) {
	t.Helper()
	if d.Len() != len(records) {
		t.Errorf("Len: %d, want %d", d.Len(), len(records))
	}
	if b, want := d.Bytes(), written(records...); !bytes.Equal(b, want) {
		t.Errorf("Bytes: % X, want % X", b, want)
	}
	for _, epoch := range edges(records) {
		wantEpoch(t, d, epoch, records)
	}
}

func wantEpoch(t *testing.T, d *Directory, epoch uint32, records []Record) {
	t.Helper()
	var valid []Record
	missing := map[api.Addr]bool{}
	for addr := range api.Addr(18) {
		missing[addr] = true
	}
	for _, r := range inOrder(records) {
		if r.From <= epoch && epoch <= r.To {
			valid = append(valid, r)
			missing[r.Addr] = false
			wantFind(t, d, r.Addr, epoch, r)
		}
	}
	for addr, none := range missing {
		if none {
			wantNone(t, d, addr, epoch)
		}
	}
	wantValid(t, d, epoch, valid...)
}

// wantRefused: Add answers this error, and has changed nothing of what is there.
func wantRefused(t *testing.T, d *Directory, r Record, want api.Errno, records ...Record) {
	t.Helper()
	wantAdd(t, d, r, want)
	wantHolds(t, d, records...)
}

// random gives words that are the same in each run.
func random() func() uint64 {
	x := uint64(1)
	return func() uint64 {
		x = x*6364136223846793005 + 1442695040888963407
		return x ^ x>>29
	}
}

func shuffled(next func() uint64, records []Record) []Record {
	mixed := slices.Clone(records)
	for i := len(mixed) - 1; i > 0; i-- {
		j := int(next()>>33) % (i + 1)
		mixed[i], mixed[j] = mixed[j], mixed[i]
	}
	return mixed
}

func TestI1New(t *testing.T) {
	d := New()
	wantHolds(t, d)
	for _, epoch := range []uint32{0, 1, 1000, lastEpoch} {
		wantEpoch(t, d, epoch, nil)
	}
}

func TestI1Addr(t *testing.T) {
	d := New()
	var records []Record
	for addr := range api.Addr(16) {
		r := Record{Addr: addr, From: 3, To: 5, Link: uint32(addr) + 100}
		wantAdd(t, d, r, api.OK)
		records = append(records, r)
		wantHolds(t, d, records...)
	}
	for _, addr := range []api.Addr{16, 17, 31, 32, 255, 256, 1<<15 + 1, 1<<16 - 1} {
		wantRefused(t, d, Record{Addr: addr, From: 3, To: 5}, api.ErrArg, records...)
		wantRefused(t, d, Record{Addr: addr, From: 7, To: 7}, api.ErrArg, records...)
		for _, epoch := range []uint32{0, 3, 5, 7} {
			wantNone(t, d, addr, epoch)
		}
	}
}

func TestI1FromAboveTo(t *testing.T) {
	for _, r := range []Record{{1, 6, 5, 1}, {1, 1, 0, 1}, {1, lastEpoch, 0, 1}, {1, lastEpoch, lastEpoch - 1, 1}, {1, 1 << 31, 1<<31 - 1, 1}, {1, 256, 255, 1}, {1, 1 << 16, 0, 1}} {
		wantRefused(t, New(), r, api.ErrArg)
	}
	for _, epoch := range []uint32{0, 1, 5, 1 << 16, 1<<31 - 1, 1 << 31, lastEpoch - 1, lastEpoch} {
		r := Record{Addr: 1, From: epoch, To: epoch, Link: 1}
		d := New()
		wantAdd(t, d, r, api.OK)
		wantHolds(t, d, r)
	}
}

func TestI1Common(t *testing.T) {
	there := Record{Addr: 2, From: 10, To: 20, Link: 7}
	for _, r := range []Record{
		{2, 20, 30, 1}, // its first epoch alone
		{2, 5, 10, 1},  // its last epoch alone
		{2, 20, 20, 1},
		{2, 10, 10, 1},
		{2, 10, 20, 7}, // the same one
		{2, 10, 20, 8},
		{2, 11, 19, 1},
		{2, 15, 15, 1},
		{2, 9, 21, 1},
		{2, 10, 15, 1},
		{2, 15, 20, 1},
		{2, 10, lastEpoch, 1},
		{2, 20, lastEpoch, 1},
		{2, 0, 10, 1},
		{2, 0, 20, 1},
		{2, 0, lastEpoch, 1},
	} {
		wantRefused(t, filled(t, there), r, api.ErrState, there)
	}
	for _, r := range []Record{
		{2, 21, 30, 1}, // both only touch it
		{2, 5, 9, 1},
		{2, 21, 21, 1},
		{2, 9, 9, 1},
		{2, 0, 9, 1},
		{2, 21, lastEpoch, 1},
		{2, 0, 0, 1},
		{2, lastEpoch, lastEpoch, 1},
		{1, 10, 20, 7}, // other nodes are there when they like
		{3, 15, 15, 7},
		{0, 0, lastEpoch, 7},
		{15, 20, 20, 7},
	} {
		d := filled(t, there)
		wantAdd(t, d, r, api.OK)
		wantHolds(t, d, there, r)
	}
}

// TestI1CommonWithAny: it is not the first, the last or the next record alone that is looked at.
func TestI1CommonWithAny(t *testing.T) {
	there := []Record{{4, 10, 19, 1}, {4, 30, 39, 2}, {4, 50, 59, 3}, {5, 20, 29, 4}, {4, 70, 79, 5}}
	next := random()
	for range 20 {
		mixed := shuffled(next, there)
		d := filled(t, mixed...)
		for _, r := range []Record{{4, 19, 29, 9}, {4, 20, 30, 9}, {4, 35, 45, 9}, {4, 29, 40, 9}, {4, 40, 50, 9}, {4, 59, 60, 9}, {4, 79, 99, 9}, {4, 0, 10, 9}, {4, 0, 99, 9}, {4, 20, 60, 9}} {
			wantRefused(t, d, r, api.ErrState, mixed...)
		}
		between := []Record{{4, 20, 29, 9}, {4, 40, 49, 9}, {4, 60, 69, 9}, {4, 80, lastEpoch, 9}, {4, 0, 9, 9}}
		for i, r := range between {
			wantAdd(t, d, r, api.OK)
			wantHolds(t, d, slices.Concat(mixed, between[:i+1])...)
		}
	}
}

func TestI1FirstAndLastEpoch(t *testing.T) {
	whole := Record{Addr: 9, From: 0, To: lastEpoch, Link: lastEpoch}
	d := filled(t, whole)
	wantHolds(t, d, whole)
	for _, epoch := range []uint32{0, 1, 1 << 31, lastEpoch - 1, lastEpoch} {
		wantFind(t, d, 9, epoch, whole)
		wantRefused(t, d, Record{Addr: 9, From: epoch, To: epoch}, api.ErrState, whole)
	}

	ends := []Record{{9, 0, 0, 0}, {9, lastEpoch, lastEpoch, 0}}
	d = filled(t, ends...)
	wantRefused(t, d, whole, api.ErrState, ends...)
	wantRefused(t, d, Record{Addr: 9, From: 0, To: 1}, api.ErrState, ends...)
	wantRefused(t, d, Record{Addr: 9, From: lastEpoch - 1, To: lastEpoch}, api.ErrState, ends...)
	middle := Record{Addr: 9, From: 1, To: lastEpoch - 1, Link: 5}
	wantAdd(t, d, middle, api.OK)
	wantHolds(t, d, ends[0], ends[1], middle)
}

func TestI1Full(t *testing.T) {
	for _, nodes := range []int{1, 4, 16} {
		records := full(nodes)
		d := New()
		for i, r := range records {
			wantAdd(t, d, r, api.OK)
			if d.Len() != i+1 {
				t.Errorf("Len: %d, want %d", d.Len(), i+1)
			}
		}
		wantHolds(t, d, records...)
		for range 2 { // the one more leaves no trace
			wantRefused(t, d, Record{Addr: 0, From: 1, To: 1}, api.ErrFull, records...)
			wantRefused(t, d, Record{Addr: 15, From: 1000, To: lastEpoch}, api.ErrFull, records...)
		}
	}
}

// TestI1TwoErrors: the first that applies is told.
func TestI1TwoErrors(t *testing.T) {
	there := Record{Addr: 2, From: 10, To: 20, Link: 7}
	for _, r := range []Record{{2, 15, 12, 1}, {2, 20, 10, 1}, {2, 20, 19, 1}, {2, 11, 10, 1}, {2, 18, 0, 1}} { // each end is in an epoch that is there
		wantRefused(t, filled(t, there), r, api.ErrArg, there)
	}
	for _, nodes := range []int{1, 16} {
		records := full(nodes)
		d := filled(t, records...)
		wantRefused(t, d, Record{Addr: 16, From: 1, To: 1}, api.ErrArg, records...)   // and ErrFull
		wantRefused(t, d, Record{Addr: 0, From: 2, To: 1}, api.ErrArg, records...)    // and ErrFull, with an end that is there
		wantRefused(t, d, Record{Addr: 16, From: 2, To: 1}, api.ErrArg, records...)   // both of ErrArg, and ErrFull
		wantRefused(t, d, Record{Addr: 0, From: 999, To: 99}, api.ErrArg, records...) // and ErrFull
		wantRefused(t, d, Record{Addr: 0, From: 2, To: 2}, api.ErrState, records...)  // and ErrFull
		wantRefused(t, d, Record{Addr: 0, From: 0, To: lastEpoch}, api.ErrState, records...)
		wantRefused(t, d, Record{Addr: 0, From: 1, To: 1}, api.ErrFull, records...)
	}
}

func TestI1Edges(t *testing.T) {
	a, b, c := Record{2, 5, 9, 1}, Record{2, 10, 12, 2}, Record{2, 14, 14, 3}
	d := filled(t, c, a, b)
	for epoch, want := range []Record{5: a, 6: a, 7: a, 8: a, 9: a, 10: b, 11: b, 12: b, 13: {}, 14: c, 15: {}} {
		if want == (Record{}) {
			wantNone(t, d, 2, uint32(epoch))
			wantValid(t, d, uint32(epoch))
		} else {
			wantFind(t, d, 2, uint32(epoch), want)
			wantValid(t, d, uint32(epoch), want)
		}
	}
	for _, addr := range []api.Addr{0, 1, 3, 15, 16, 1<<16 - 1, 1<<8 + 2} {
		for epoch := range uint32(16) {
			wantNone(t, d, addr, epoch)
		}
	}
}

func TestI1ZeroRecord(t *testing.T) {
	d := New()
	wantNone(t, d, 0, 0)
	wantAdd(t, d, Record{}, api.OK)
	wantFind(t, d, 0, 0, Record{})
	wantHolds(t, d, Record{})
	wantAdd(t, d, Record{}, api.ErrState)
}

// TestI1Order: answers do not hang on the order in which records came, nor on that of a map.
func TestI1Order(t *testing.T) {
	var records []Record
	for addr := range api.Addr(16) {
		n := uint32(addr)
		records = append(records, Record{addr, n, n + 9, 50 - n}, Record{addr, n + 10, n + 10, n}, Record{addr, 100 - n, 100, 7})
	}
	next := random()
	for range 30 {
		d := filled(t, shuffled(next, records)...)
		wantHolds(t, d, records...)
	}
	d := filled(t, records...)
	for range 30 {
		wantHolds(t, d, records...)
	}
}

func TestI1Many(t *testing.T) {
	next := random()
	for range 300 {
		d := New()
		var records []Record
		epochs := 2 + next()>>33%60
		for range 100 {
			r := Record{api.Addr(next() >> 33 % 18), uint32(next() >> 33 % epochs), uint32(next() >> 33 % epochs), uint32(next() >> 33)}
			if want := otherAdd(records, r); want == api.OK {
				wantAdd(t, d, r, api.OK)
				records = append(records, r)
			} else {
				wantAdd(t, d, r, want)
			}
		}
		wantHolds(t, d, records...)
		for epoch := range uint32(epochs) {
			wantEpoch(t, d, epoch, records)
		}
	}
}

// otherAdd is what the chapter says of Add once more, epoch by epoch.
func otherAdd(records []Record, r Record) api.Errno {
	if r.Addr > 15 || r.From > r.To {
		return api.ErrArg
	}
	for epoch := r.From; epoch <= r.To; epoch++ {
		for _, x := range records {
			if x.Addr == r.Addr && x.From <= epoch && epoch <= x.To {
				return api.ErrState
			}
		}
	}
	if len(records) == 64 {
		return api.ErrFull
	}
	return api.OK
}

// TestI1AnswerIsTheCallers (R1): who writes over what Valid told changes nothing.
func TestI1AnswerIsTheCallers(t *testing.T) {
	records := []Record{{1, 3, 9, 4}, {2, 0, 5, 6}, {7, 5, 5, 8}}
	d := filled(t, records...)
	one, two := d.Valid(5), d.Valid(5)
	one = one[:cap(one)]
	for i := range one {
		one[i] = Record{9, 9, 9, 9}
	}
	if !slices.Equal(two, records) {
		t.Errorf("the other answer is %v now", two)
	}
	wantHolds(t, d, records...)
}

// TestI1TwoDirectories (R3): each has its own records.
func TestI1TwoDirectories(t *testing.T) {
	a, b := New(), New()
	one, two := Record{1, 3, 9, 4}, Record{1, 5, 12, 6}
	wantAdd(t, a, one, api.OK)
	wantHolds(t, b)
	wantAdd(t, b, two, api.OK)
	wantHolds(t, a, one)
	wantHolds(t, b, two)
	for _, r := range full(16)[1:] {
		if r.Addr != 1 {
			wantAdd(t, a, r, api.OK)
		}
	}
	wantHolds(t, b, two)
}

func TestI2None(t *testing.T) {
	want, err := hex.DecodeString("e3b0c44298fc1c149afbf4c8996fb92427ae41e4649b934ca495991b7852b855")
	if b := New().Bytes(); err != nil || !bytes.Equal(b, want) {
		t.Errorf("% X, want % X", b, want)
	}
	d, fault := Load(want)
	if fault != api.OK {
		t.Fatalf("Load: %v", fault)
	}
	wantHolds(t, d)
	wantAdd(t, d, Record{1, 2, 3, 4}, api.OK) // it can be added to
	wantHolds(t, d, Record{1, 2, 3, 4})
}

func TestI2One(t *testing.T) {
	d := filled(t, Record{Addr: 0x000E, From: 0x01020304, To: 0xF1F2F3F4, Link: 0xA1A2A3A4})
	records := []byte{0x00, 0x0E, 0x01, 0x02, 0x03, 0x04, 0xF1, 0xF2, 0xF3, 0xF4, 0xA1, 0xA2, 0xA3, 0xA4}
	sum := sha256.Sum256(records)
	b := d.Bytes()
	if len(b) != 46 || !bytes.Equal(b[:14], records) || !bytes.Equal(b[14:], sum[:]) {
		t.Errorf("% X, want % X % X", b, records, sum)
	}
}

// TestI2Several: by rising Addr ahead of rising From, both as numbers, whatever the order in which records came.
func TestI2Several(t *testing.T) {
	sorted := []Record{
		{0, 0x01000000, 0x01000000, 1},
		{1, 0, 0, 9},
		{1, 1, 0xFE, 8},
		{1, 0xFF, 0xFF, 7},
		{1, 0x0100, 0x01FE, 6},
		{1, 0x01FF, 0x7FFFFFFF, 5},
		{1, 0x80000000, lastEpoch, 4},
		{2, 0, lastEpoch, 3},
		{10, 5, 5, 2},
		{15, 0, 4, 1},
		{15, 5, 5, 0},
	}
	want := sealed(rows(sorted...))
	next := random()
	for range 50 {
		mixed := shuffled(next, sorted)
		if b := filled(t, mixed...).Bytes(); !bytes.Equal(b, want) {
			t.Errorf("of %v: % X, want % X", mixed, b, want)
		}
	}
	backward := slices.Clone(sorted)
	slices.Reverse(backward)
	if b := filled(t, backward...).Bytes(); !bytes.Equal(b, want) {
		t.Errorf("of %v: % X, want % X", backward, b, want)
	}
}

func wantLoad(t *testing.T, b []byte, records ...Record) *Directory {
	t.Helper()
	d, err := Load(b)
	if err != api.OK || d == nil {
		t.Fatalf("Load(% X): %v, want %v", b, err, records)
	}
	wantHolds(t, d, records...)
	return d
}

func wantLoadFault(t *testing.T, b []byte, want api.Errno) {
	t.Helper()
	if d, err := Load(b); d != nil || err != want {
		t.Errorf("Load(% X): %v, %v, want %v alone", b, d, err, want)
	}
}

// TestI2Loaded: what is loaded answers as what was written, and takes or refuses more as that.
func TestI2Loaded(t *testing.T) {
	for _, x := range []struct {
		records []Record
		more    Record
		want    api.Errno
	}{
		{nil, Record{0, 0, 0, 0}, api.OK},
		{[]Record{{0, 0, 0, 0}}, Record{0, 1, 1, 1}, api.OK},
		{[]Record{{15, 0, lastEpoch, lastEpoch}}, Record{15, 7, 7, 1}, api.ErrState},
		{[]Record{{3, 5, 9, 1}, {3, 10, 10, 2}, {1, 5, 9, 3}, {3, 0, 4, 4}}, Record{3, 11, 11, 5}, api.OK},
		{full(1)[:63], Record{0, 1, 1, 1}, api.OK},
		{full(1), Record{0, 1, 1, 1}, api.ErrFull},
		{full(4), Record{9, 1, 1, 1}, api.ErrFull},
		{full(16), Record{15, 1, 1, 1}, api.ErrFull},
	} {
		written := filled(t, x.records...)
		loaded := wantLoad(t, written.Bytes(), x.records...)
		for _, d := range []*Directory{written, loaded} {
			for _, r := range x.records {
				wantRefused(t, d, r, api.ErrState, x.records...)
			}
			wantRefused(t, d, Record{Addr: 16}, api.ErrArg, x.records...)
			if x.want == api.OK {
				wantAdd(t, d, x.more, api.OK)
				wantHolds(t, d, slices.Concat(x.records, []Record{x.more})...)
			} else {
				wantRefused(t, d, x.more, x.want, x.records...)
			}
		}
	}
}

func TestI2ManyLoaded(t *testing.T) {
	next := random()
	for range 200 {
		var records []Record
		for range next() >> 33 % 90 {
			from := uint32(next() >> (32 + next()>>33%32))
			r := Record{api.Addr(next() >> 33 % 16), from, from + uint32(next()>>33%40), uint32(next())}
			if r.From <= r.To && otherAdd(records, r) == api.OK {
				records = append(records, r)
			}
		}
		b := filled(t, records...).Bytes()
		if again := wantLoad(t, b, records...).Bytes(); !bytes.Equal(again, b) {
			t.Errorf("% X is written again as % X", b, again)
		}
	}
}

func TestI2Short(t *testing.T) {
	whole := sealed(nil)
	for n := range 32 {
		wantLoadFault(t, whole[:n], api.ErrShort)
		wantLoadFault(t, make([]byte, n), api.ErrShort)
	}
	wantLoadFault(t, nil, api.ErrShort)
	wantLoadFault(t, rows(Record{1, 2, 3, 4}, Record{2, 2, 3, 4}), api.ErrShort) // and of no right sum, 28 bytes
	wantLoadFault(t, make([]byte, 32), api.ErrMAC)
	wantLoad(t, whole)
}

// TestI2Turned: any byte that is another one is seen, in the records and in the sum.
func TestI2Turned(t *testing.T) {
	for _, records := range [][]Record{nil, {{1, 2, 3, 4}}, {{1, 2, 3, 4}, {1, 5, 5, 4}, {7, 0, 99, 0}}, full(4)} {
		b := written(records...)
		for i := range b {
			for _, turn := range []byte{0x01, 0x10, 0x80, 0xFF} {
				other := slices.Clone(b)
				other[i] ^= turn
				wantLoadFault(t, other, api.ErrMAC)
			}
		}
		wantLoad(t, b, records...)
	}
}

// TestI2OtherLength: bytes that are missing or too many, at either end, and sums at other places.
func TestI2OtherLength(t *testing.T) {
	records := []Record{{1, 2, 3, 4}, {1, 5, 5, 4}, {7, 0, 99, 0}}
	b := written(records...)
	for _, n := range []int{1, 13, 14, 28} {
		wantLoadFault(t, b[n:], api.ErrMAC)
		wantLoadFault(t, b[:len(b)-n], api.ErrMAC)
		wantLoadFault(t, append(slices.Clone(b), make([]byte, n)...), api.ErrMAC)
		wantLoadFault(t, append(make([]byte, n), b...), api.ErrMAC)
	}
	sum := sha256.Sum256(rows(records...))
	wantLoadFault(t, append(sum[:], rows(records...)...), api.ErrMAC)
}

// TestI2NotFourteen: a right sum over bytes that are not whole records.
func TestI2NotFourteen(t *testing.T) {
	b := rows(Record{1, 2, 3, 4}, Record{1, 5, 5, 4}, Record{7, 0, 99, 0})
	for n := range len(b) + 1 {
		if n%14 == 0 {
			wantLoad(t, sealed(b[:n]), []Record{{1, 2, 3, 4}, {1, 5, 5, 4}, {7, 0, 99, 0}}[:n/14]...)
		} else {
			wantLoadFault(t, sealed(b[:n]), api.ErrForm)
		}
	}
	whole := rows(inOrder(full(16))...)
	for _, more := range []int{1, 2, 13} {
		wantLoadFault(t, sealed(append(slices.Clone(whole), make([]byte, more)...)), api.ErrForm)
	}
}

func TestI2TooMany(t *testing.T) {
	for _, nodes := range []int{1, 4, 16} {
		records := inOrder(full(nodes))
		last := records[63]
		wantLoad(t, sealed(rows(records...)), records...)
		for _, more := range []int{1, 2, 64, 1000} {
			long := slices.Clone(records)
			for i := range uint32(more) {
				long = append(long, Record{last.Addr, last.To + 1 + i, last.To + 1 + i, 0})
			}
			wantLoadFault(t, sealed(rows(long...)), api.ErrForm)
		}
	}
}

// TestI2NoRecords: right sums over fourteens that are not records in order, each of which Add would take.
func TestI2NoRecords(t *testing.T) {
	good := Record{3, 10, 20, 1}
	for _, x := range []struct {
		name    string
		records []Record
	}{
		{"by falling Addr", []Record{{4, 10, 20, 1}, good}},
		{"by falling Addr, behind others", []Record{{1, 0, 0, 0}, {1, 1, 1, 0}, {4, 10, 20, 1}, good, {5, 0, 0, 0}}},
		{"by falling Addr, with rising From", []Record{{4, 1, 2, 1}, good}},
		{"the last two by falling Addr", []Record{{1, 0, 0, 0}, {5, 10, 20, 1}, {4, 10, 20, 1}}},
		{"by rising From alone", []Record{{1, 10, 10, 1}, {2, 11, 11, 1}, {1, 12, 12, 1}}},
		{"by falling From", []Record{good, {3, 0, 9, 1}}},
		{"by falling From, which is lower in its last byte", []Record{{3, 0x0100, 0x0100, 1}, {3, 0xFF, 0xFF, 1}}},
		{"by falling From, above 2^31", []Record{{3, 1 << 31, 1 << 31, 1}, {3, 1<<31 - 1, 1<<31 - 1, 1}}},
		{"by falling From, far away", []Record{{3, lastEpoch, lastEpoch, 1}, {3, 0, 0, 1}}},
		{"twice the same", []Record{good, good}},
		{"twice the same, behind others", []Record{{1, 0, 0, 0}, good, good}},
		{"thrice the same", []Record{good, good, good}},
		{"twice the zero one", []Record{{}, {}}},
		{"twice but for Link", []Record{good, {3, 10, 20, 2}}},
		{"twice but for To", []Record{good, {3, 10, 30, 1}}},
		{"its last epoch in common", []Record{good, {3, 20, 30, 1}}},
		{"all of its epochs in common", []Record{good, {3, 11, 19, 1}}},
		{"epochs in common with one further ahead", []Record{{3, 0, 99, 1}, {4, 0, 99, 1}, {4, 50, 60, 1}}},
		{"the last epoch that there is in common", []Record{{3, 10, lastEpoch, 1}, {3, lastEpoch, lastEpoch, 1}}},
		{"Addr 16", []Record{{16, 10, 20, 1}}},
		{"Addr 16 behind others", []Record{good, {15, 0, 0, 0}, {16, 10, 20, 1}}},
		{"Addr 256", []Record{{256, 10, 20, 1}}},
		{"Addr 65535", []Record{good, {1<<16 - 1, 10, 20, 1}}},
		{"From above To", []Record{{3, 11, 10, 1}}},
		{"From above To behind others", []Record{good, {3, 22, 21, 1}}},
		{"From above To ahead of others", []Record{{3, 1, 0, 1}, good}},
	} {
		if d, err := Load(sealed(rows(x.records...))); d != nil || err != api.ErrForm {
			t.Errorf("%s: %v, %v, want ErrForm alone", x.name, d, err)
		}
	}
	near := []Record{{3, 9, 9, 1}, good, {3, 21, 21, 1}, {4, 0, 20, 1}, {15, 20, 20, 1}} // all edges that are records yet
	wantLoad(t, sealed(rows(near...)), near...)
}

// TestI2TwoErrors: the first that applies is told.
func TestI2TwoErrors(t *testing.T) {
	for _, b := range [][]byte{
		make([]byte, 1),
		make([]byte, 13),
		make([]byte, 41),
		rows(Record{16, 0, 0, 0}),
		rows(Record{1, 2, 1, 0}),
		rows(Record{2, 0, 0, 0}, Record{1, 0, 0, 0}),
		rows(Record{1, 0, 5, 0}, Record{1, 5, 5, 0}),
		rows(append(inOrder(full(1)), Record{1, 0, 0, 0})...),
	} {
		wantLoadFault(t, sealed(b), api.ErrForm)
		wrong := sealed(b)
		wrong[len(wrong)-1] ^= 1
		wantLoadFault(t, wrong, api.ErrMAC) // and ErrForm
		wantLoadFault(t, append(slices.Clone(b), make([]byte, 32)...), api.ErrMAC)
	}
	for n := range 32 {
		wantLoadFault(t, bytes.Repeat([]byte{0xFF}, n), api.ErrShort) // and ErrMAC, and ErrForm but for none
	}
}

// TestI2HandedInStays (R1), with what lies behind its end, and it may be written over.
func TestI2HandedInStays(t *testing.T) {
	records := []Record{{1, 2, 3, 4}, {1, 5, 5, 4}, {7, 0, 99, 0}}
	good := written(records...)
	for _, b := range [][]byte{good, sealed(nil), good[:31], good[1:], sealed(good), sealed(rows(records[2], records[0]))} {
		room := slices.Concat(b, []byte("behind"))
		old := slices.Clone(room)
		Load(room[:len(b)])
		if !bytes.Equal(room, old) {
			t.Errorf("% X is % X now", old, room)
		}
	}
	handed := slices.Clone(good)
	d := wantLoad(t, handed, records...)
	for i := range handed {
		handed[i] ^= 0xFF
	}
	wantHolds(t, d, records...)
	clear(handed)
	wantHolds(t, d, records...)
}

// TestI2AnswerIsTheCallers (R1, R3): bytes that are told, and directories that are loaded, are nobody else's.
func TestI2AnswerIsTheCallers(t *testing.T) {
	records := []Record{{1, 2, 3, 4}, {1, 5, 5, 4}, {7, 0, 99, 0}}
	d := filled(t, records...)
	one, two := d.Bytes(), d.Bytes()
	kept := slices.Clone(two)
	one = one[:cap(one)]
	for i := range one {
		one[i] ^= 0xFF
	}
	if !bytes.Equal(two, kept) {
		t.Errorf("the other answer is % X now", two)
	}
	wantHolds(t, d, records...)

	a, b := wantLoad(t, kept, records...), wantLoad(t, kept, records...)
	more := Record{9, 9, 9, 9}
	wantAdd(t, a, more, api.OK)
	wantHolds(t, a, slices.Concat(records, []Record{more})...)
	wantHolds(t, b, records...)
	wantHolds(t, d, records...)
}

// TestI2WrittenStays: what was told is not what comes to be there behind it.
func TestI2WrittenStays(t *testing.T) {
	first := Record{5, 0, 9, 1}
	d := filled(t, first)
	b := d.Bytes()
	valid := d.Valid(5)
	wantAdd(t, d, Record{4, 0, 9, 1}, api.OK)
	if !bytes.Equal(b, written(first)) || !slices.Equal(valid, []Record{first}) {
		t.Errorf("% X, %v: changed by an Add", b, valid)
	}
	wantLoad(t, b, first)
}
