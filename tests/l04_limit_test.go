package tests

import (
	"cmp"
	"math"
	"math/rand"
	"slices"
	"testing"

	"loop.example/g00099/impl"
)

// slowCoin tells all symbols that it was made of; place is where it stands among the symbols, or among the pairs.
type slowCoin struct {
	weight, kind, place int
	symbols             []int
}

func sortCoins(list []slowCoin) {
	slices.SortFunc(list, func(a, b slowCoin) int {
		return cmp.Or(cmp.Compare(a.weight, b.weight), cmp.Compare(a.kind, b.kind), cmp.Compare(a.place, b.place))
	})
}

// slowLengths makes the document's lists as they are told, of counts and a limit that are as they must be.
func slowLengths(counts []int, limit int) []int {
	lengths := make([]int, len(counts))
	var first []slowCoin
	for symbol, count := range counts {
		if count > 0 {
			first = append(first, slowCoin{count, 0, symbol, []int{symbol}})
		}
	}
	if len(first) == 1 {
		lengths[first[0].place] = 1
	}
	if len(first) < 2 {
		return lengths
	}
	sortCoins(first)
	list := first
	for range limit - 1 {
		next := slices.Clone(first)
		for i := 0; i+1 < len(list); i += 2 {
			both := slices.Concat(list[i].symbols, list[i+1].symbols)
			next = append(next, slowCoin{list[i].weight + list[i+1].weight, 1, i, both})
		}
		sortCoins(next)
		list = next
	}
	for _, c := range list[:2*len(first)-2] {
		for _, symbol := range c.symbols {
			lengths[symbol]++
		}
	}
	return lengths
}

// leastCost goes down a tree of codes: at each depth some nodes are leaves, which take the greatest counts
// that are left, and the others have two below them. It knows nothing of coins.
func leastCost(counts []int, limit int) int {
	var list []int
	for _, count := range counts {
		if count > 0 {
			list = append(list, count)
		}
	}
	slices.SortFunc(list, func(a, b int) int { return b - a })
	known := map[[3]int]int{}
	var below func(depth, nodes, at int) int
	below = func(depth, nodes, at int) int {
		left := len(list) - at
		nodes = min(nodes, left)
		key := [3]int{depth, nodes, at}
		if cost, ok := known[key]; ok || left == 0 {
			return cost
		}
		best, sum := math.MaxInt/2, 0
		for leaves := 0; leaves <= nodes; leaves++ {
			if leaves > 0 {
				sum += depth * list[at+leaves-1]
			}
			if leaves == left {
				best = min(best, sum)
			} else if depth < limit && leaves < nodes {
				best = min(best, sum+below(depth+1, 2*(nodes-leaves), at+leaves))
			}
		}
		known[key] = best
		return best
	}
	return below(1, 2, 0)
}

// allLengths calls with each list of that many lengths, from 1 up to the limit, that is not CodeOver.
func allLengths(size, limit int, each func([]int)) {
	list := slices.Repeat([]int{1}, size)
	for at := 0; at < size; {
		if impl.CodeKind(list) != impl.CodeOver {
			each(list)
		}
		for at = 0; at < size; at++ {
			if list[at]++; list[at] <= limit {
				break
			}
			list[at] = 1
		}
	}
}

// someCounts calls with each list of that many counts of some.
func someCounts(size int, some []int, each func([]int)) {
	list := make([]int, size)
	total := 1
	for range size {
		total *= len(some)
	}
	for i := range total {
		for at := range list {
			list[at] = some[i%len(some)]
			i /= len(some)
		}
		each(list)
	}
}

func usedSymbols(counts []int) int {
	n := 0
	for _, count := range counts {
		if count > 0 {
			n++
		}
	}
	return n
}

// fibonacci counts want codes as long as there can be; the last of 20 is below MaxBytes.
func fibonacci(size int) []int {
	list := []int{1, 1}
	for len(list) < size {
		list = append(list, list[len(list)-1]+list[len(list)-2])
	}
	return list[:size]
}

func doubling(size int) []int {
	list := []int{1}
	for len(list) < size {
		list = append(list, min(impl.MaxBytes, 2*list[len(list)-1]))
	}
	return list
}

// countLists are counts of many kinds: with ties and without, steep and flat, with symbols that never come.
func countLists() [][]int {
	r := rand.New(rand.NewSource(4))
	list := [][]int{
		nil, {0}, {0, 0, 0}, make([]int, 288), {7}, {0, 7}, {7, 0, 0}, {impl.MaxBytes}, append(make([]int, 287), 1),
		{1, 1}, {0, 1, 0, impl.MaxBytes}, {1, 1, 2, 4, 0},
		slices.Repeat([]int{1}, 288), slices.Repeat([]int{impl.MaxBytes}, 288), slices.Repeat([]int{1}, 256),
		slices.Repeat([]int{1, 2}, 144), slices.Repeat([]int{2, 1, 0}, 96), slices.Repeat([]int{1, 1, 2, 4}, 72),
		fibonacci(20), doubling(14), doubling(30),
		slices.Concat(fibonacci(20), make([]int, 100), fibonacci(20)),
		slices.Concat(doubling(14), fibonacci(20), slices.Repeat([]int{1}, 200)),
	}
	for _, size := range []int{2, 3, 5, 8, 13, 30, 64, 65, 150, 288} {
		for _, greatest := range []int{1, 2, 4, 20, impl.MaxBytes} {
			counts := make([]int, size)
			for i := range counts {
				counts[i] = r.Intn(greatest + 1)
			}
			list = append(list, counts)
		}
	}
	for _, counts := range slices.Clone(list) {
		back := slices.Clone(counts)
		slices.Reverse(back)
		list = append(list, back)
	}
	return list
}

// limitsOf are the limits that are right for so many symbols, the least first.
func limitsOf(n int) []int {
	var list []int
	for limit := 1; limit <= impl.MaxCodeLen; limit++ {
		if n <= 1<<limit {
			list = append(list, limit)
		}
	}
	return list
}

func lengthsOf(t *testing.T, counts []int, limit int) []int {
	t.Helper()
	lengths, ok := impl.LimitedLengths(counts, limit)
	if !ok || len(lengths) != len(counts) {
		t.Fatalf("LimitedLengths of %v, %d: %v, %v", counts, limit, lengths, ok)
	}
	return lengths
}

// checkP4 holds all of the promise but the cost.
func checkP4(t *testing.T, counts []int, limit int) []int {
	t.Helper()
	lengths := lengthsOf(t, counts, limit)
	if kind := impl.CodeKind(lengths); usedSymbols(counts) >= 2 && kind != impl.CodeWhole {
		t.Fatalf("LimitedLengths of %v, %d: %v, which are of kind %d", counts, limit, lengths, kind)
	}
	for symbol, n := range lengths {
		if n > limit || (n > 0) != (counts[symbol] > 0) {
			t.Fatalf("LimitedLengths of %v, %d: %v", counts, limit, lengths)
		}
	}
	return lengths
}

func TestP4NoOtherLengthsCostLess(t *testing.T) {
	some := []int{1, 2, 3, 5, 8, impl.MaxBytes}
	for _, c := range []struct{ size, limit int }{{2, 1}, {2, 2}, {2, 15}, {3, 2}, {3, 3}, {3, 15}, {4, 2}, {4, 3}, {4, 4}, {5, 3}, {5, 4}, {6, 3}} {
		var others [][]int
		allLengths(c.size, c.limit, func(list []int) { others = append(others, slices.Clone(list)) })
		if c.size > 4 {
			some = []int{1, 2, 5}
		}
		someCounts(c.size, some, func(counts []int) {
			lengths := checkP4(t, counts, c.limit)
			cost, ok := impl.CostOf(lengths, counts)
			if !ok {
				t.Fatalf("no cost of %v by %v", counts, lengths)
			}
			for _, other := range others {
				if less := slowCost(other, counts); less < cost {
					t.Fatalf("LimitedLengths of %v, %d: %v cost %d, and %v %d", counts, c.limit, lengths, cost, other, less)
				}
			}
		})
	}
}

func slowCost(lengths, counts []int) int {
	cost := 0
	for symbol, n := range lengths {
		cost += n * counts[symbol]
	}
	return cost
}

func TestP4OfManySymbols(t *testing.T) {
	for _, counts := range countLists() {
		n := usedSymbols(counts)
		for _, limit := range limitsOf(n) {
			lengths := checkP4(t, counts, limit)
			if n < 2 || n > 40 {
				continue
			}
			if cost, ok := impl.CostOf(lengths, counts); !ok || cost != leastCost(counts, limit) {
				t.Fatalf("LimitedLengths of %v, %d: %v cost %d, %v; the least is %d", counts, limit, lengths, cost, ok, leastCost(counts, limit))
			}
		}
	}
}

func TestP4OtherWholeLengthsCostNoLess(t *testing.T) {
	r := rand.New(rand.NewSource(44))
	for _, counts := range countLists() {
		n := usedSymbols(counts)
		if n < 2 {
			continue
		}
		for _, limit := range limitsOf(n) {
			cost, _ := impl.CostOf(lengthsOf(t, counts, limit), counts)
			for range 5 {
				// Any whole lengths of so many codes, the shortest for the greatest count, are others.
				other := wholeLengths(r, n, limit)
				if less := sortedCost(other, counts); less < cost {
					t.Fatalf("LimitedLengths of %v, %d cost %d, and %v %d", counts, limit, cost, other, less)
				}
			}
		}
	}
}

// sortedCost gives the shortest of the lengths to the greatest counts.
func sortedCost(lengths, counts []int) int {
	short, great := slices.Sorted(slices.Values(lengths)), slices.Sorted(slices.Values(counts))
	slices.Reverse(great)
	return slowCost(short, great[:len(short)])
}

func TestLimitedLengthsAreTheDocumentsOwn(t *testing.T) {
	for size := range 6 {
		someCounts(size, []int{0, 1, 2, 3, 4}, func(counts []int) {
			for _, limit := range limitsOf(usedSymbols(counts)) {
				if limit > 6 && limit < 15 {
					continue
				}
				if got, want := lengthsOf(t, counts, limit), slowLengths(counts, limit); !slices.Equal(got, want) {
					t.Fatalf("LimitedLengths of %v, %d: %v, want %v", counts, limit, got, want)
				}
			}
		})
	}
	for _, counts := range countLists() {
		for _, limit := range limitsOf(usedSymbols(counts)) {
			if got, want := lengthsOf(t, counts, limit), slowLengths(counts, limit); !slices.Equal(got, want) {
				t.Fatalf("LimitedLengths of %v, %d: %v, want %v", counts, limit, got, want)
			}
		}
	}
}

func TestLimitedLengthsOfTies(t *testing.T) {
	for _, c := range []struct {
		counts []int
		limit  int
		want   []int
	}{
		// Symbols with one another: the least symbol is ahead, and so has the longer code.
		{[]int{1, 1, 1}, 15, []int{2, 2, 1}},
		{[]int{1, 1, 1}, 2, []int{2, 2, 1}},
		{[]int{3, 0, 3, 3, 0}, 15, []int{2, 0, 2, 1, 0}},
		{[]int{2, 1, 1}, 15, []int{1, 2, 2}},
		{[]int{2, 2, 1}, 15, []int{2, 1, 2}},
		{[]int{1, 1, 1, 1, 1}, 15, []int{3, 3, 2, 2, 2}},
		{[]int{1, 1, 1, 1, 1}, 3, []int{3, 3, 2, 2, 2}},
		// A symbol and a pair: with the pair ahead it would be 3, 3, 2, 1, which costs the same.
		{[]int{1, 1, 2, 2}, 15, []int{2, 2, 2, 2}},
		{[]int{1, 1, 2, 2}, 3, []int{2, 2, 2, 2}},
		{[]int{2, 2, 1, 1}, 15, []int{2, 2, 2, 2}},
		{[]int{1, 1, 1, 2}, 15, []int{2, 2, 2, 2}},
		{[]int{1, 1, 2}, 15, []int{2, 2, 1}},
		// Pairs with one another.
		{[]int{1, 1, 1, 1, 1, 1}, 15, []int{3, 3, 3, 3, 2, 2}},
		{[]int{1, 1, 1, 1, 1, 1, 1}, 15, []int{3, 3, 3, 3, 3, 3, 2}},
		{[]int{1, 3, 2, 2, 4}, 15, []int{3, 2, 3, 2, 2}},
	} {
		if got, ok := impl.LimitedLengths(c.counts, c.limit); !ok || !slices.Equal(got, c.want) {
			t.Errorf("LimitedLengths of %v, %d: %v, %v; want %v", c.counts, c.limit, got, ok, c.want)
		}
	}
}

func TestLimitedLengthsOfFewSymbols(t *testing.T) {
	for limit := 1; limit <= 15; limit++ {
		for _, c := range []struct{ counts, want []int }{
			{nil, nil},
			{[]int{}, nil},
			{[]int{0}, []int{0}},
			{[]int{0, 0, 0}, []int{0, 0, 0}},
			{make([]int, 288), make([]int, 288)},
			{[]int{1}, []int{1}},
			{[]int{impl.MaxBytes}, []int{1}},
			{[]int{0, 7}, []int{0, 1}},
			{[]int{7, 0, 0}, []int{1, 0, 0}},
			{append(make([]int, 287), 5), append(make([]int, 287), 1)},
			{[]int{1, 1}, []int{1, 1}},
			{[]int{0, impl.MaxBytes, 0, 1}, []int{0, 1, 0, 1}},
		} {
			if got, ok := impl.LimitedLengths(c.counts, limit); !ok || !slices.Equal(got, c.want) {
				t.Errorf("LimitedLengths of %v, %d: %v, %v; want %v", c.counts, limit, got, ok, c.want)
			}
		}
	}
}

func TestLimitedLengthsThatAreMetOrPassed(t *testing.T) {
	for limit := 1; limit <= 8; limit++ {
		// Symbols that never come do not count, wherever they stand.
		full := slices.Concat([]int{0}, slices.Repeat([]int{3}, 1<<limit), []int{0, 0})
		if limit > 1 {
			full[1], full[2] = 1, impl.MaxBytes
		}
		want := slices.Concat([]int{0}, slices.Repeat([]int{limit}, 1<<limit), []int{0, 0})
		if got, ok := impl.LimitedLengths(full, limit); !ok || !slices.Equal(got, want) {
			t.Errorf("LimitedLengths of 2^%d symbols: %v, %v", limit, got, ok)
		}
		full[0] = 1
		if got, ok := impl.LimitedLengths(full, limit); ok || len(got) != 0 {
			t.Errorf("LimitedLengths of 2^%d symbols and one: %v, %v", limit, got, ok)
		}
		if got, ok := impl.LimitedLengths(full, limit+1); !ok || slices.Max(got) != limit+1 {
			t.Errorf("LimitedLengths of 2^%d symbols and one, %d: %v, %v", limit, limit+1, got, ok)
		}
	}
}

func TestLimitedLengthsThatWantToBeLonger(t *testing.T) {
	free := []int{13, 13, 12, 11, 10, 9, 8, 7, 6, 5, 4, 3, 2, 1}
	for _, limit := range []int{13, 14, 15} {
		if got := lengthsOf(t, doubling(14), limit); !slices.Equal(got, free) {
			t.Errorf("doubling counts, %d: %v", limit, got)
		}
	}
	for _, c := range []struct {
		counts []int
		limit  int
		want   []int
	}{
		{[]int{1, 2, 4, 8}, 3, []int{3, 3, 2, 1}},
		{[]int{1, 2, 4, 8}, 2, []int{2, 2, 2, 2}},
		{[]int{1, 2, 4, 8, 16}, 4, []int{4, 4, 3, 2, 1}},
		{[]int{1, 2, 4, 8, 16}, 3, []int{3, 3, 3, 3, 1}},
		{doubling(14), 12, []int{12, 12, 12, 12, 10, 9, 8, 7, 6, 5, 4, 3, 2, 1}},
	} {
		if got := lengthsOf(t, c.counts, c.limit); !slices.Equal(got, c.want) {
			t.Errorf("LimitedLengths of %v, %d: %v, want %v", c.counts, c.limit, got, c.want)
		}
	}
	for limit := 5; limit <= 15; limit++ {
		if got := lengthsOf(t, fibonacci(20), limit); slices.Max(got) != limit || !slices.Equal(got, slowLengths(fibonacci(20), limit)) {
			t.Errorf("steep counts, %d: %v", limit, got)
		}
	}
}

func TestLimitedLengthsOfWrongArguments(t *testing.T) {
	for _, counts := range [][]int{nil, {0}, {0, 5}, {1, 1}, {1, 1, 2, 4}, make([]int, 288)} {
		for _, limit := range []int{0, -1, 16, 17, 63, 64, 256, math.MinInt, math.MaxInt} {
			if got, ok := impl.LimitedLengths(counts, limit); ok || len(got) != 0 {
				t.Errorf("LimitedLengths of %v, %d: %v, %v", counts, limit, got, ok)
			}
		}
	}
	for _, counts := range [][]int{
		{-1}, {impl.MaxBytes + 1}, {0, -1}, {-1, 0}, {1, -1}, {1, 1, -1}, {-1, 1, 1}, {impl.MaxBytes + 1, 1}, {1, 1, impl.MaxBytes + 1},
		{math.MinInt, 1}, {1, math.MaxInt}, {math.MaxInt, math.MaxInt},
		make([]int, 289), slices.Repeat([]int{1}, 289), append(make([]int, 288), 1), append([]int{1}, make([]int, 288)...),
		append(make([]int, 287), -1), append(slices.Repeat([]int{1}, 287), impl.MaxBytes+1),
	} {
		for limit := 1; limit <= 15; limit++ {
			if got, ok := impl.LimitedLengths(counts, limit); ok || len(got) != 0 {
				t.Errorf("LimitedLengths of %v, %d: %v, %v", counts, limit, got, ok)
			}
		}
	}
}

func TestCountsOf(t *testing.T) {
	long := slices.Repeat([]int{0, 2, 2}, impl.MaxBytes/3)
	all := make([]int, 288)
	for i := range all {
		all[i] = 287 - i
	}
	for _, c := range []struct {
		list []int
		size int
		want []int
		ok   bool
	}{
		{nil, 1, []int{0}, true},
		{[]int{}, 3, []int{0, 0, 0}, true},
		{nil, 288, make([]int, 288), true},
		{[]int{0, 0}, 1, []int{2}, true},
		{[]int{1, 1, 0}, 3, []int{1, 2, 0}, true},
		{[]int{2, 0, 2, 2}, 3, []int{1, 0, 3}, true},
		{[]int{287}, 288, append(make([]int, 287), 1), true},
		{all, 288, slices.Repeat([]int{1}, 288), true},
		{long, 3, []int{4000, 0, 8000}, true},
		{make([]int, impl.MaxBytes), 1, []int{impl.MaxBytes}, true},
		{make([]int, impl.MaxBytes+1), 1, nil, false},
		{append(slices.Clone(long), 1), 3, nil, false},
		{nil, 0, nil, false},
		{nil, -1, nil, false},
		{nil, 289, nil, false},
		{nil, math.MaxInt, nil, false},
		{nil, math.MinInt, nil, false},
		{[]int{0}, 0, nil, false},
		{[]int{0}, 289, nil, false},
		{[]int{1}, 1, nil, false},
		{[]int{-1}, 1, nil, false},
		{[]int{1, 1, 3}, 3, nil, false},
		{[]int{3, 1, 1}, 3, nil, false},
		{[]int{1, -1, 1}, 3, nil, false},
		{[]int{288}, 288, nil, false},
		{[]int{1, math.MaxInt}, 288, nil, false},
		{[]int{math.MinInt}, 288, nil, false},
		{append(slices.Clone(long[1:]), 3), 3, nil, false},
	} {
		if got, ok := impl.CountsOf(c.list, c.size); ok != c.ok || !slices.Equal(got, c.want) {
			t.Errorf("CountsOf of %d numbers, %d: %v, %v; want %v, %v", len(c.list), c.size, got, ok, c.want, c.ok)
		}
	}
}

func TestP4OfSymbolsThatCome(t *testing.T) {
	r := rand.New(rand.NewSource(45))
	for _, size := range []int{2, 19, 30, 286, 288} {
		list := make([]int, 3000)
		for i := range list {
			list[i] = int(math.Abs(r.NormFloat64()) * float64(size) / 8)
			list[i] = min(list[i], size-1)
		}
		counts, ok := impl.CountsOf(list, size)
		if !ok {
			t.Fatalf("no counts of %d symbols", size)
		}
		lengths := checkP4(t, counts, 15)
		cost, right := impl.CostOf(lengths, counts)
		if w, put := impl.PutSymbols(impl.Out{}, lengths, list); !right || !put || w.Count != cost {
			t.Errorf("%d symbols: %d bits, %v; the cost is %d, %v", size, w.Count, put, cost, right)
		}
	}
}

func TestShortCodesLeaveArgumentsAlone(t *testing.T) {
	list, room := spared([]int{2, 0, 2})
	counts, rest := spared([]int{4, 1, 0, 2, 1})
	numbers, _ := impl.CountsOf(list, 3)
	lengths, _ := impl.LimitedLengths(counts, 7)
	for i := range numbers {
		numbers[i] = -9
	}
	for i := range lengths {
		lengths[i] = -9
	}
	if !slices.Equal(room, []int{2, 0, 2, 77, 77, 77}) || !slices.Equal(rest, []int{4, 1, 0, 2, 1, 77, 77, 77}) {
		t.Errorf("the arguments became %v, %v", room, rest)
	}
	if again, _ := impl.LimitedLengths(counts, 7); !slices.Equal(again, []int{1, 3, 0, 2, 3}) {
		t.Errorf("the lengths became %v", again)
	}
	if again, _ := impl.CountsOf(list, 3); !slices.Equal(again, []int{1, 0, 2}) {
		t.Errorf("the counts became %v", again)
	}
}
