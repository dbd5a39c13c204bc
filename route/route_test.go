package route

import (
	"math"
	"math/big"
	"slices"
	"testing"

	"hourglass/api"
)

const greatestWord = math.MaxUint64

// addrs are so many nodes that rise, with both ends of what an Addr can be once there are two.
func addrs(count int) []api.Addr {
	all := make([]api.Addr, count)
	for i := range all {
		all[i] = api.Addr(i * 257)
	}
	if count > 1 {
		all[count-1] = math.MaxUint16
	}
	return all
}

// random gives words that are the same in each run.
func random() func() uint64 {
	x := uint64(1)
	return func() uint64 {
		x = x*6364136223846793005 + 1442695040888963407
		return x ^ x>>29
	}
}

func randomWords(next func() uint64, count int) []uint64 {
	words := make([]uint64, count)
	for i := range words {
		words[i] = next()
	}
	return words
}

// otherDraw is what the chapter says once more, for what has no fault: by a flag for each node, and numbers without an end.
func otherDraw(words []uint64, nodes []api.Addr, hops int, last api.Addr) []api.Addr {
	gone := map[api.Addr]bool{last: true}
	var route []api.Addr
	for hop := 1; hop < hops; hop++ {
		count := big.NewInt(int64(len(nodes) - len(gone)))
		place := new(big.Int).Mod(new(big.Int).SetUint64(words[hop-1]), count).Int64()
		for _, node := range nodes {
			if gone[node] {
				continue
			}
			if place == 0 {
				route, gone[node] = append(route, node), true
				break
			}
			place--
		}
	}
	return append(route, last)
}

// otherFault is the chapter's row of errors once more.
func otherFault(words, nodes, hops int, rises, among bool) api.Errno {
	if hops < 1 || hops > 5 || !rises || nodes > 16 {
		return api.ErrArg
	}
	if !among {
		return api.ErrNone
	}
	if nodes < hops {
		return api.ErrFull
	}
	if words < hops-1 {
		return api.ErrShort
	}
	return api.OK
}

func wantRoute(t *testing.T, words []uint64, nodes []api.Addr, hops int, last api.Addr, want []api.Addr) {
	t.Helper()
	route, used, err := Draw(words, nodes, hops, last)
	if !slices.Equal(route, want) || used != hops-1 || err != api.OK {
		t.Errorf("Draw(%v, %v, %d, %d): %v, %d, %v, want %v", words, nodes, hops, last, route, used, err, want)
	}
}

func wantFault(t *testing.T, words []uint64, nodes []api.Addr, hops int, last api.Addr, want api.Errno) {
	t.Helper()
	route, used, err := Draw(words, nodes, hops, last)
	if len(route) != 0 || used != 0 || err != want {
		t.Errorf("Draw(%v, %v, %d, %d): %v, %d, %v, want %v alone", words, nodes, hops, last, route, used, err, want)
	}
}

func TestG1Known(t *testing.T) {
	five := []api.Addr{1, 2, 3, 4, 5}
	for _, x := range []struct {
		words []uint64
		nodes []api.Addr
		last  api.Addr
		want  []api.Addr
	}{
		{[]uint64{7, 5}, []api.Addr{1, 2, 3, 4}, 2, []api.Addr{3, 4, 2}},
		{[]uint64{1, 0}, []api.Addr{1, 2, 3, 4}, 2, []api.Addr{3, 1, 2}},
		{[]uint64{2, 0}, []api.Addr{1, 2, 3, 4}, 2, []api.Addr{4, 1, 2}},
		{[]uint64{0, 1}, []api.Addr{1, 2, 3, 4}, 1, []api.Addr{2, 4, 1}},
		{[]uint64{8}, []api.Addr{0, 65535}, 0, []api.Addr{65535, 0}},
		{[]uint64{8}, []api.Addr{0, 65535}, 65535, []api.Addr{0, 65535}},
		{[]uint64{3, 2, 1, 0}, five, 5, []api.Addr{4, 3, 2, 1, 5}},
		{[]uint64{4, 3, 2, 1}, five, 5, []api.Addr{1, 2, 3, 4, 5}},
		{[]uint64{1, 1, 1, 1}, five, 3, []api.Addr{2, 4, 5, 1, 3}},
		{[]uint64{0, 0, 0, 0}, five, 1, []api.Addr{2, 3, 4, 5, 1}},
		{[]uint64{14, 13, 12, 11}, addrs(16), 0, []api.Addr{65535, 3598, 3341, 3084, 0}},
		{[]uint64{15, 14, 13, 12}, addrs(16), 0, []api.Addr{257, 514, 771, 1028, 0}},
	} {
		wantRoute(t, x.words, x.nodes, len(x.want), x.last, x.want)
	}
}

func TestG1OneHop(t *testing.T) {
	for count := 1; count <= 16; count++ {
		nodes := addrs(count)
		for _, last := range nodes {
			wantRoute(t, nil, nodes, 1, last, []api.Addr{last})
			wantRoute(t, []uint64{}, nodes, 1, last, []api.Addr{last})
			wantRoute(t, []uint64{1, greatestWord}, nodes, 1, last, []api.Addr{last})
		}
	}
}

// TestG1NoWord: words of 0 are the first ones, in order, without the last.
func TestG1NoWord(t *testing.T) {
	for count := 1; count <= 16; count++ {
		nodes := addrs(count)
		for at, last := range nodes {
			others := slices.Delete(slices.Clone(nodes), at, at+1)
			for hops := 1; hops <= min(count, 5); hops++ {
				want := append(slices.Clone(others[:hops-1]), last)
				wantRoute(t, make([]uint64, hops-1), nodes, hops, last, want)
			}
		}
	}
}

// TestG1GreatestWord: words have 64 bits and no sign.
func TestG1GreatestWord(t *testing.T) {
	greatest := []uint64{greatestWord, greatestWord, greatestWord, greatestWord}
	wantRoute(t, greatest, addrs(8), 5, 0, []api.Addr{514, 1285, 257, 65535, 0}) // left by 7, 6, 5, 4: 1, 3, 0, 3
	for _, word := range []uint64{greatestWord, greatestWord - 1, 1<<63 - 1, 1 << 63, 1<<63 + 1, 1<<32 - 1, 1 << 32, 1<<32 + 1} {
		words := []uint64{word, word, word, word}
		for count := 1; count <= 16; count++ {
			nodes := addrs(count)
			for _, last := range nodes {
				for hops := 1; hops <= min(count, 5); hops++ {
					wantRoute(t, words, nodes, hops, last, otherDraw(words, nodes, hops, last))
				}
			}
		}
	}
}

func TestG1Many(t *testing.T) {
	next := random()
	for count := 1; count <= 16; count++ {
		nodes := addrs(count)
		for _, last := range nodes {
			for hops := 1; hops <= min(count, 5); hops++ {
				for range 50 {
					words := randomWords(next, hops-1)
					wantRoute(t, words, nodes, hops, last, otherDraw(words, nodes, hops, last))
				}
			}
		}
	}
}

// TestG1Used: words behind those that are used say nothing, and are not counted.
func TestG1Used(t *testing.T) {
	next := random()
	nodes := addrs(9)
	for hops := 1; hops <= 5; hops++ {
		words := randomWords(next, 12)
		want := otherDraw(words, nodes, hops, nodes[4])
		for count := hops - 1; count <= len(words); count++ {
			wantRoute(t, words[:count], nodes, hops, nodes[4], want)
		}
		for i := hops - 1; i < len(words); i++ {
			words[i]++
		}
		wantRoute(t, words, nodes, hops, nodes[4], want)
	}
}

// TestG1EachWordCounts: each word that is used changes its hop, and none ahead of it.
func TestG1EachWordCounts(t *testing.T) {
	nodes := addrs(10)
	want, _, _ := Draw([]uint64{3, 1, 4, 1}, nodes, 5, nodes[2])
	for i := range 4 {
		words := []uint64{3, 1, 4, 1}
		words[i]++
		route, _, err := Draw(words, nodes, 5, nodes[2])
		if err != api.OK || !slices.Equal(route[:i], want[:i]) || route[i] == want[i] {
			t.Errorf("word %d: %v, %v, beside %v", i, route, err, want)
		}
	}
}

func TestG1NoneTwice(t *testing.T) {
	next := random()
	for count := 1; count <= 16; count++ {
		nodes := addrs(count)
		for hops := 1; hops <= min(count, 5); hops++ {
			for range 200 {
				last := nodes[next()%uint64(count)]
				route, used, err := Draw(randomWords(next, 4), nodes, hops, last)
				if err != api.OK || used != hops-1 || len(route) != hops || route[hops-1] != last {
					t.Fatalf("%d hops to %d: %v, %d, %v", hops, last, route, used, err)
				}
				sorted := slices.Clone(route)
				slices.Sort(sorted)
				if len(slices.Compact(sorted)) != hops {
					t.Errorf("a node stands in %v twice", route)
				}
				for _, node := range route {
					if !slices.Contains(nodes, node) {
						t.Errorf("%v has %d, that is none of %v", route, node, nodes)
					}
				}
			}
		}
	}
}

func TestG1EachFaultAlone(t *testing.T) {
	four := []uint64{1, 1, 1, 1}
	nodes := []api.Addr{1, 2, 3, 4, 5, 6}
	for _, hops := range []int{0, 6, -1, 7, -5, math.MinInt, math.MaxInt} {
		wantFault(t, make([]uint64, 8), nodes, hops, 1, api.ErrArg)
	}
	for _, wrong := range [][]api.Addr{{2, 1}, {1, 3, 2}, {2, 1, 3}, {1, 1}, {0, 0}, {1, 1, 2}, {1, 2, 2}, {3, 2, 1}, {1, 2, 1}} {
		wantFault(t, four, wrong, 1, wrong[0], api.ErrArg)
		wantFault(t, four, wrong, 2, wrong[0], api.ErrArg)
	}
	for at := range 15 { // one pair that does not rise, wherever it stands
		wrong := addrs(16)
		wrong[at], wrong[at+1] = wrong[at+1], wrong[at]
		wantFault(t, four, wrong, 5, 514, api.ErrArg)
		wrong[at] = wrong[at+1]
		wantFault(t, four, wrong, 5, wrong[at], api.ErrArg)
	}
	for _, count := range []int{17, 18, 200} {
		wantFault(t, four, addrs(count), 5, 257, api.ErrArg)
		wantFault(t, four, addrs(count), 1, 257, api.ErrArg)
	}
	for _, last := range []api.Addr{0, 7, 65535} {
		wantFault(t, four, nodes, 5, last, api.ErrNone)
		wantFault(t, four, nodes, 1, last, api.ErrNone)
	}
	wantFault(t, four, []api.Addr{1, 3}, 2, 2, api.ErrNone)
	wantFault(t, four, nil, 1, 0, api.ErrNone)
	wantFault(t, four, []api.Addr{}, 1, 0, api.ErrNone)
	for hops := 2; hops <= 5; hops++ {
		wantFault(t, four, nodes[:hops-1], hops, 1, api.ErrFull)
		wantFault(t, four, nodes[:1], hops, 1, api.ErrFull)
		wantFault(t, four[:hops-2], nodes, hops, 1, api.ErrShort)
		wantFault(t, four[:hops-2], nodes[:hops], hops, 1, api.ErrShort)
		wantFault(t, nil, nodes, hops, 1, api.ErrShort)
	}
}

func TestG1FirstFault(t *testing.T) {
	for _, x := range []struct {
		words []uint64
		nodes []api.Addr
		hops  int
		last  api.Addr
		want  api.Errno
	}{
		{nil, nil, 0, 1, api.ErrArg},
		{nil, nil, 6, 1, api.ErrArg},
		{nil, []api.Addr{1}, 6, 1, api.ErrArg},
		{nil, []api.Addr{1}, -1, 2, api.ErrArg},
		{nil, []api.Addr{2, 1}, 2, 1, api.ErrArg},         // and too few words
		{[]uint64{1}, []api.Addr{2, 1}, 2, 3, api.ErrArg}, // and no such node
		{[]uint64{1, 1}, []api.Addr{1, 1}, 3, 1, api.ErrArg},
		{nil, []api.Addr{1, 1}, 3, 2, api.ErrArg},
		{nil, addrs(17), 5, 1, api.ErrArg},
		{nil, nil, 5, 0, api.ErrNone},
		{[]uint64{1, 1}, []api.Addr{1, 2}, 3, 3, api.ErrNone}, // and too few nodes
		{nil, []api.Addr{1, 2}, 2, 3, api.ErrNone},            // and too few words
		{nil, []api.Addr{1, 2}, 3, 3, api.ErrNone},
		{nil, []api.Addr{1, 2}, 3, 2, api.ErrFull}, // and too few words
		{[]uint64{1}, []api.Addr{1, 2}, 3, 2, api.ErrFull},
	} {
		wantFault(t, x.words, x.nodes, x.hops, x.last, x.want)
	}
}

// TestG1AllFaults holds all faults together with all others.
func TestG1AllFaults(t *testing.T) {
	words := []uint64{5, 6, 7, 8, 9, 10}
	for hops := -1; hops <= 7; hops++ {
		for count := range 19 {
			for length := range len(words) + 1 {
				for kind := range 4 {
					rises, among := kind&1 == 0, kind&2 == 0
					nodes, last := addrs(count), api.Addr(1)
					if count < 2 && !rises || count < 1 && among {
						continue
					}
					if among {
						last = nodes[count/2]
					}
					if !rises {
						nodes[count-2], nodes[count-1] = nodes[count-1], nodes[count-2]
					}
					if want := otherFault(length, count, hops, rises, among); want != api.OK {
						wantFault(t, words[:length], nodes, hops, last, want)
					} else {
						wantRoute(t, words[:length], nodes, hops, last, otherDraw(words, nodes, hops, last))
					}
				}
			}
		}
	}
}

// TestG1HandedInStays (R1), with what lies behind the ends of the lists.
func TestG1HandedInStays(t *testing.T) {
	next := random()
	for hops := 1; hops <= 5; hops++ {
		words, nodes := randomWords(next, 9), addrs(12)
		oldWords, oldNodes := slices.Clone(words), slices.Clone(nodes)
		for _, last := range nodes[:7] {
			if _, _, err := Draw(words[:hops-1], nodes[:7], hops, last); err != api.OK {
				t.Errorf("%d hops to %d: %v", hops, last, err)
			}
		}
		wantFault(t, words[:0], nodes[:7], 6, nodes[0], api.ErrArg)
		wantFault(t, words[:0], nodes[:7], hops, 1, api.ErrNone)
		if !slices.Equal(words, oldWords) || !slices.Equal(nodes, oldNodes) {
			t.Errorf("%d hops: words or nodes are not what they were", hops)
		}
	}
}

// TestG1AnswerIsTheCallers (R1, R4): nobody's writing is seen by anybody else.
func TestG1AnswerIsTheCallers(t *testing.T) {
	for hops := 1; hops <= 5; hops++ {
		words, nodes := []uint64{9, 8, 7, 6}, addrs(5)
		oldNodes := slices.Clone(nodes)
		one, _, _ := Draw(words, nodes, hops, nodes[3])
		want := slices.Clone(one)
		two, _, _ := Draw(words, nodes, hops, nodes[3])
		one = one[:cap(one)]
		for i := range one {
			one[i] = 4242
		}
		if !slices.Equal(two, want) || !slices.Equal(nodes, oldNodes) {
			t.Errorf("%d hops: %v and %v behind a caller who wrote over his route", hops, two, nodes)
		}
		clear(words)
		clear(nodes)
		if !slices.Equal(two, want) {
			t.Errorf("%d hops: %v behind a caller who wrote over his nodes, want %v", hops, two, want)
		}
		wantRoute(t, []uint64{9, 8, 7, 6}, oldNodes, hops, oldNodes[3], want)
	}
}

func wantCount(t *testing.T, nodes, hops int, want uint64) {
	t.Helper()
	if n := Count(nodes, hops); n != want {
		t.Errorf("Count(%d, %d): %d, want %d", nodes, hops, n, want)
	}
}

func TestG2Known(t *testing.T) {
	for _, x := range []struct {
		nodes, hops int
		want        uint64
	}{
		{1, 1, 1}, {16, 1, 1}, {2, 2, 1}, {16, 2, 15}, {3, 3, 2}, {4, 3, 6}, {16, 3, 210},
		{4, 4, 6}, {16, 4, 2730}, {5, 5, 24}, {6, 5, 120}, {15, 5, 24024}, {16, 5, 32760},
	} {
		wantCount(t, x.nodes, x.hops, x.want)
	}
}

func TestG2None(t *testing.T) {
	ends := []int{math.MinInt, math.MinInt32, -17, -16, -5, -1, 0}
	for _, wrong := range append(ends, 17, 18, 1<<32+5, math.MaxInt) {
		for hops := 1; hops <= 5; hops++ {
			wantCount(t, wrong, hops, 0)
		}
	}
	for _, wrong := range append(ends, 6, 7, 16, 17, 1<<32+1, math.MaxInt) {
		for nodes := range 18 {
			wantCount(t, nodes, wrong, 0)
		}
		wantCount(t, wrong, wrong, 0)
	}
	for hops := 2; hops <= 5; hops++ {
		wantCount(t, hops-1, hops, 0)
	}
}

// routes counts the ways to choose so many of those that are left, one by one, in order.
func routes(left, hops int) uint64 {
	if hops == 0 {
		return 1
	}
	sum := uint64(0)
	for range left {
		sum += routes(left-1, hops-1)
	}
	return sum
}

func TestG2All(t *testing.T) {
	for hops := -2; hops <= 7; hops++ {
		for nodes := -2; nodes <= 19; nodes++ {
			want := uint64(0)
			if hops >= 1 && hops <= 5 && nodes >= hops && nodes <= 16 {
				want = routes(nodes-1, hops-1)
			}
			wantCount(t, nodes, hops, want)
		}
	}
}

// drawn counts the routes of Draw over all words that matter, each once.
func drawn(t *testing.T, nodes []api.Addr, hops int, last api.Addr) uint64 {
	seen := map[[5]api.Addr]bool{}
	words := make([]uint64, hops-1)
	for {
		route, _, err := Draw(words, nodes, hops, last)
		if err != api.OK {
			t.Fatalf("Draw(%v, %v, %d, %d): %v", words, nodes, hops, last, err)
		}
		var key [5]api.Addr
		copy(key[:], route)
		seen[key] = true
		at := 0
		for ; at < len(words); at++ {
			if words[at]++; words[at] < uint64(len(nodes)-1-at) {
				break
			}
			words[at] = 0
		}
		if at == len(words) {
			return uint64(len(seen))
		}
	}
}

// TestG2AsManyAsDrawn: all words together have just as many routes as Count says.
func TestG2AsManyAsDrawn(t *testing.T) {
	for count := 1; count <= 16; count++ {
		nodes := addrs(count)
		for hops := 1; hops <= min(count, 5); hops++ {
			lasts := nodes
			if count > 8 {
				lasts = []api.Addr{nodes[0], nodes[count/2], nodes[count-1]}
			}
			for _, last := range lasts {
				wantCount(t, count, hops, drawn(t, nodes, hops, last))
			}
		}
	}
}

// TestG2NoRoutes: where Count is 0, Draw has no route, and the other way round.
func TestG2NoRoutes(t *testing.T) {
	words := make([]uint64, 9)
	for hops := -1; hops <= 7; hops++ {
		for count := 1; count <= 18; count++ {
			nodes := addrs(count)
			_, _, err := Draw(words, nodes, hops, nodes[0])
			if (Count(count, hops) == 0) != (err != api.OK) {
				t.Errorf("%d nodes, %d hops: %d routes, but %v", count, hops, Count(count, hops), err)
			}
		}
	}
}
