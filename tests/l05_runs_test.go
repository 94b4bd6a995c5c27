package tests

import (
	"math"
	"math/rand"
	"slices"
	"testing"

	"loop.example/g00099/impl"
)

const mostLengths = impl.MaxSymbols + 32

// slowRuns goes by the document's words alone, counting what follows at each place.
func slowRuns(lengths []int) []impl.Run {
	var list []impl.Run
	for at := 0; at < len(lengths); {
		zeros, again := 0, 0
		for _, n := range lengths[at:] {
			if n != 0 {
				break
			}
			zeros++
		}
		for i := at; at > 0 && i < len(lengths) && lengths[i] == lengths[at-1]; i++ {
			again++
		}
		if zeros >= 11 {
			many := min(zeros, 138)
			list = append(list, impl.Run{Sym: 18, Extra: many - 11})
			at += many
		} else if zeros >= 3 {
			list = append(list, impl.Run{Sym: 17, Extra: zeros - 3})
			at += zeros
		} else if again >= 3 {
			many := min(again, 6)
			list = append(list, impl.Run{Sym: 16, Extra: many - 3})
			at += many
		} else {
			list = append(list, impl.Run{Sym: lengths[at]})
			at++
		}
	}
	return list
}

// rightRuns tells of each right Run how many lengths it tells.
func rightRuns() map[impl.Run]int {
	table := map[impl.Run]int{}
	for n := range 16 {
		table[impl.Run{Sym: n}] = 1
	}
	for extra := range 128 {
		if extra < 4 {
			table[impl.Run{Sym: 16, Extra: extra}] = 3 + extra
		}
		if extra < 8 {
			table[impl.Run{Sym: 17, Extra: extra}] = 3 + extra
		}
		table[impl.Run{Sym: 18, Extra: extra}] = 11 + extra
	}
	return table
}

var runTable = rightRuns()

// slowBack goes by the table of right Runs; it knows no sizes.
func slowBack(list []impl.Run) ([]int, bool) {
	lengths := []int{}
	for i, run := range list {
		times := runTable[run]
		if times == 0 || i == 0 && run.Sym == 16 {
			return nil, false
		}
		what := run.Sym
		if what == 16 {
			what = lengths[len(lengths)-1]
		} else if what > 16 {
			what = 0
		}
		lengths = append(lengths, slices.Repeat([]int{what}, times)...)
	}
	return lengths, true
}

// runText is a list of runs of lengths: each pair is a length and how often it comes.
func runText(pairs ...int) []int {
	var list []int
	for i := 0; i < len(pairs); i += 2 {
		list = append(list, slices.Repeat([]int{pairs[i]}, pairs[i+1])...)
	}
	return list
}

// lengthLists are right lists of lengths, with runs of all sizes that an answer hangs on, anywhere in the list.
func lengthLists() [][]int {
	r := rand.New(rand.NewSource(5))
	list := [][]int{nil, {}}
	for n := range 16 {
		list = append(list, []int{n})
		for times := range 24 {
			list = append(list, runText(n, times), runText(n, times, 3, 1), runText(4, 1, n, times), runText(0, 4, n, times, 0, 1))
		}
	}
	for _, times := range []int{1, 2, 3, 10, 11, 137, 138, 139, 140, 141, 148, 149, 150, 276, 277, 279, 286, 287, 288} {
		list = append(list, runText(0, times), runText(0, times, 7, 1), runText(7, 1, 0, times), runText(7, 2, 0, times, 7, 3), runText(9, 8, 0, times, 9, 9))
	}
	for n := range 16 {
		list = append(list, runText(n, mostLengths), runText(n, mostLengths-1), runText(n, mostLengths-1, 2, 1), runText(2, 1, n, mostLengths-1))
	}
	for range 400 {
		var lengths []int
		for size := r.Intn(mostLengths + 1); len(lengths) < size; {
			n := r.Intn(3) * r.Intn(8)
			times := 1 + r.Intn(12)
			if r.Intn(8) == 0 {
				times = 1 + r.Intn(160)
			}
			lengths = append(lengths, runText(n, min(times, size-len(lengths)))...)
		}
		list = append(list, lengths)
	}
	return list
}

func runsOf(t *testing.T, lengths []int) []impl.Run {
	t.Helper()
	list, ok := impl.RunsOf(lengths)
	if !ok {
		t.Fatalf("RunsOf of %v: %v, %v", lengths, list, ok)
	}
	return list
}

func checkP5(t *testing.T, lengths []int) {
	t.Helper()
	list := runsOf(t, lengths)
	if len(list) > len(lengths) {
		t.Fatalf("%d Runs of %d lengths %v", len(list), len(lengths), lengths)
	}
	if back, ok := impl.RunsBack(list, len(lengths)); !ok || !slices.Equal(back, lengths) {
		t.Fatalf("%v came back from %v as %v, %v", lengths, list, back, ok)
	}
	if want := slowRuns(lengths); !slices.Equal(list, want) {
		t.Fatalf("RunsOf of %v: %v, want %v", lengths, list, want)
	}
}

func TestP5LengthsComeBackFromTheirRuns(t *testing.T) {
	for _, lengths := range lengthLists() {
		checkP5(t, lengths)
	}
}

func TestP5OfAllShortLists(t *testing.T) {
	for _, some := range [][]int{{0, 1}, {5, 15}, {0, 2, 3}} {
		for size := range 11 {
			if len(some) == 3 && size > 8 {
				continue
			}
			someCounts(size, some, func(lengths []int) { checkP5(t, lengths) })
		}
	}
}

func TestRunsOf(t *testing.T) {
	again := func(extra int) impl.Run { return impl.Run{Sym: 16, Extra: extra} }
	zeros := func(extra int) impl.Run { return impl.Run{Sym: 17, Extra: extra} }
	many := func(extra int) impl.Run { return impl.Run{Sym: 18, Extra: extra} }
	one := func(n int) impl.Run { return impl.Run{Sym: n} }
	for _, c := range []struct {
		lengths []int
		want    []impl.Run
	}{
		{nil, nil},
		{runText(0, 1), []impl.Run{one(0)}},
		{runText(15, 1), []impl.Run{one(15)}},
		// Of 0.
		{runText(0, 2), []impl.Run{one(0), one(0)}},
		{runText(0, 3), []impl.Run{zeros(0)}},
		{runText(0, 10), []impl.Run{zeros(7)}},
		{runText(0, 11), []impl.Run{many(0)}},
		{runText(0, 138), []impl.Run{many(127)}},
		{runText(0, 139), []impl.Run{many(127), one(0)}},
		{runText(0, 140), []impl.Run{many(127), one(0), one(0)}},
		// 0 behind 0: told as 0, not as the length ahead.
		{runText(0, 141), []impl.Run{many(127), zeros(0)}},
		{runText(0, 144), []impl.Run{many(127), zeros(3)}},
		{runText(0, 148), []impl.Run{many(127), zeros(7)}},
		{runText(0, 149), []impl.Run{many(127), many(0)}},
		{runText(0, 150), []impl.Run{many(127), many(1)}},
		{runText(0, 276), []impl.Run{many(127), many(127)}},
		{runText(0, mostLengths), []impl.Run{many(127), many(127), many(33)}},
		// Of another length.
		{runText(6, 2), []impl.Run{one(6), one(6)}},
		{runText(6, 3), []impl.Run{one(6), one(6), one(6)}},
		{runText(6, 4), []impl.Run{one(6), again(0)}},
		{runText(6, 5), []impl.Run{one(6), again(1)}},
		{runText(6, 7), []impl.Run{one(6), again(3)}},
		{runText(6, 8), []impl.Run{one(6), again(3), one(6)}},
		{runText(6, 9), []impl.Run{one(6), again(3), one(6), one(6)}},
		{runText(6, 10), []impl.Run{one(6), again(3), again(0)}},
		{runText(15, 13), []impl.Run{one(15), again(3), again(3)}},
		// One behind another.
		{runText(6, 4, 7, 4), []impl.Run{one(6), again(0), one(7), again(0)}},
		{runText(6, 3, 7, 3), []impl.Run{one(6), one(6), one(6), one(7), one(7), one(7)}},
		{runText(6, 1, 0, 3, 6, 3), []impl.Run{one(6), zeros(0), one(6), one(6), one(6)}},
		{runText(6, 4, 0, 11, 6, 4), []impl.Run{one(6), again(0), many(0), one(6), again(0)}},
		{runText(6, 1, 0, 2, 6, 1, 0, 1), []impl.Run{one(6), one(0), one(0), one(6), one(0)}},
		{runText(0, 5, 1, 1, 0, 12, 15, 6), []impl.Run{zeros(2), one(1), many(1), one(15), again(2)}},
	} {
		if got := runsOf(t, c.lengths); !slices.Equal(got, c.want) {
			t.Errorf("RunsOf of %v: %v, want %v", c.lengths, got, c.want)
		}
	}
}

func TestRunsOfWrongLengths(t *testing.T) {
	for _, lengths := range [][]int{
		{-1}, {16}, {0, -1}, {-1, 0}, {16, 1, 1}, {1, 1, 16}, {math.MinInt}, {1, math.MaxInt},
		runText(0, mostLengths+1), runText(1, mostLengths+1), runText(15, 1, 0, mostLengths),
		runText(3, mostLengths-1, 16, 1), runText(3, mostLengths-1, -1, 1), runText(-1, 20), runText(16, 20), runText(0, 5000),
	} {
		if got, ok := impl.RunsOf(lengths); ok || len(got) != 0 {
			t.Errorf("RunsOf of %v: %v, %v", lengths, got, ok)
		}
	}
}

// anyRuns are right Runs that need not be those of RunsOf.
func anyRuns(r *rand.Rand, size int) []impl.Run {
	list := make([]impl.Run, size)
	for i := range list {
		sym := r.Intn(19)
		for i == 0 && sym == 16 {
			sym = r.Intn(19)
		}
		list[i] = impl.Run{Sym: sym, Extra: r.Intn(1 << impl.ExtraBits(sym))}
	}
	return list
}

func checkBack(t *testing.T, list []impl.Run, size int) {
	t.Helper()
	want, ok := slowBack(list)
	if !ok || size < 0 || size > mostLengths || len(want) != size {
		want, ok = nil, false
	}
	if got, right := impl.RunsBack(list, size); right != ok || !slices.Equal(got, want) {
		t.Fatalf("RunsBack of %v, %d: %v, %v; want %v, %v", list, size, got, right, want, ok)
	}
}

func TestRunsBackOfAnyRuns(t *testing.T) {
	r := rand.New(rand.NewSource(55))
	for i := range 2000 {
		list := anyRuns(r, i%12)
		lengths, ok := slowBack(list)
		if !ok {
			t.Fatalf("%v are not right", list)
		}
		for _, size := range []int{len(lengths) - 1, len(lengths), len(lengths) + 1, 0, mostLengths} {
			checkBack(t, list, size)
		}
	}
}

func TestRunsBackOfEachRun(t *testing.T) {
	for sym := -2; sym <= 20; sym++ {
		for extra := -2; extra <= 130; extra++ {
			run := impl.Run{Sym: sym, Extra: extra}
			for size := range 141 {
				checkBack(t, []impl.Run{run}, size)
			}
			for _, list := range [][]impl.Run{{{Sym: 9}, run}, {{Sym: 0}, run}, {{Sym: 17}, run}, {{Sym: 9}, run, {Sym: 4}}, {{Sym: 9}, run, {Sym: 16}}} {
				lengths, _ := slowBack(list)
				for _, size := range []int{len(lengths) - 1, len(lengths), len(lengths) + 1, 2, 4, 12} {
					checkBack(t, list, size)
				}
			}
		}
	}
}

func TestRunsBack(t *testing.T) {
	for _, c := range []struct {
		list []impl.Run
		size int
		want []int
		ok   bool
	}{
		{nil, 0, nil, true},
		{[]impl.Run{}, 0, nil, true},
		{nil, 1, nil, false},
		{nil, -1, nil, false},
		{nil, mostLengths, nil, false},
		{nil, mostLengths + 1, nil, false},
		{[]impl.Run{{Sym: 5}}, 1, []int{5}, true},
		{[]impl.Run{{Sym: 5}}, 0, nil, false},
		{[]impl.Run{{Sym: 5}}, 2, nil, false},
		{[]impl.Run{{Sym: 5}}, -1, nil, false},
		{[]impl.Run{{Sym: 0}, {Sym: 15}}, 2, []int{0, 15}, true},
		{[]impl.Run{{Sym: -1}}, 1, nil, false},
		{[]impl.Run{{Sym: 19}}, 1, nil, false},
		{[]impl.Run{{Sym: 5, Extra: 1}}, 1, nil, false},
		{[]impl.Run{{Sym: 0, Extra: 1}}, 1, nil, false},
		{[]impl.Run{{Sym: 15, Extra: -1}}, 1, nil, false},
		// The first one.
		{[]impl.Run{{Sym: 16}}, 3, nil, false},
		{[]impl.Run{{Sym: 16}, {Sym: 5}}, 4, nil, false},
		{[]impl.Run{{Sym: 17}}, 3, []int{0, 0, 0}, true},
		{[]impl.Run{{Sym: 18}}, 11, make([]int, 11), true},
		// The length ahead may be a 0 that another Run told, or one that 16 told.
		{[]impl.Run{{Sym: 17}, {Sym: 16}}, 6, make([]int, 6), true},
		{[]impl.Run{{Sym: 18, Extra: 127}, {Sym: 16, Extra: 3}}, 144, make([]int, 144), true},
		{[]impl.Run{{Sym: 0}, {Sym: 16}}, 4, make([]int, 4), true},
		{[]impl.Run{{Sym: 2}, {Sym: 16}, {Sym: 16, Extra: 3}}, 10, runText(2, 10), true},
		{[]impl.Run{{Sym: 2}, {Sym: 4}, {Sym: 16}}, 5, []int{2, 4, 4, 4, 4}, true},
		// Extra of 16, 17 and 18, and one more or less.
		{[]impl.Run{{Sym: 2}, {Sym: 16, Extra: 3}}, 7, runText(2, 7), true},
		{[]impl.Run{{Sym: 2}, {Sym: 16, Extra: 4}}, 8, nil, false},
		{[]impl.Run{{Sym: 2}, {Sym: 16, Extra: -1}}, 3, nil, false},
		{[]impl.Run{{Sym: 17, Extra: 7}}, 10, make([]int, 10), true},
		{[]impl.Run{{Sym: 17, Extra: 8}}, 11, nil, false},
		{[]impl.Run{{Sym: 17, Extra: -1}}, 2, nil, false},
		{[]impl.Run{{Sym: 18, Extra: 127}}, 138, make([]int, 138), true},
		{[]impl.Run{{Sym: 18, Extra: 128}}, 139, nil, false},
		{[]impl.Run{{Sym: 18, Extra: -1}}, 10, nil, false},
		{[]impl.Run{{Sym: 18, Extra: math.MaxInt}}, 10, nil, false},
		{[]impl.Run{{Sym: 17, Extra: math.MinInt}}, 10, nil, false},
		{[]impl.Run{{Sym: math.MaxInt}}, 1, nil, false},
		{[]impl.Run{{Sym: math.MinInt}}, 1, nil, false},
		// What comes behind all of size is too much, and must be right.
		{[]impl.Run{{Sym: 5}, {Sym: 6}}, 1, nil, false},
		{[]impl.Run{{Sym: 17}, {Sym: 19}}, 3, nil, false},
		// More by a part of a Run alone.
		{[]impl.Run{{Sym: 17, Extra: 4}}, 6, nil, false},
		{[]impl.Run{{Sym: 17, Extra: 4}}, 8, nil, false},
		// As many as there may be.
		{[]impl.Run{{Sym: 18, Extra: 127}, {Sym: 18, Extra: 127}, {Sym: 18, Extra: 33}}, mostLengths, make([]int, mostLengths), true},
		{[]impl.Run{{Sym: 18, Extra: 127}, {Sym: 18, Extra: 127}, {Sym: 18, Extra: 34}}, mostLengths, nil, false},
		{[]impl.Run{{Sym: 18, Extra: 127}, {Sym: 18, Extra: 127}, {Sym: 18, Extra: 34}}, mostLengths + 1, nil, false},
		{slices.Repeat([]impl.Run{{Sym: 1}}, mostLengths), mostLengths, runText(1, mostLengths), true},
		{slices.Repeat([]impl.Run{{Sym: 1}}, mostLengths+1), mostLengths + 1, nil, false},
		{slices.Repeat([]impl.Run{{Sym: 1}}, mostLengths-1), mostLengths, nil, false},
		{[]impl.Run{{Sym: 5}}, math.MaxInt, nil, false},
		{[]impl.Run{{Sym: 5}}, math.MinInt, nil, false},
	} {
		if got, ok := impl.RunsBack(c.list, c.size); ok != c.ok || !slices.Equal(got, c.want) {
			t.Errorf("RunsBack of %v, %d: %v, %v; want %v, %v", c.list, c.size, got, ok, c.want, c.ok)
		}
	}
}

func TestExtraBits(t *testing.T) {
	want := map[int]int{16: 2, 17: 3, 18: 7}
	for sym := -300; sym <= 300; sym++ {
		if got := impl.ExtraBits(sym); got != want[sym] {
			t.Errorf("ExtraBits of %d: %d", sym, got)
		}
	}
	for _, sym := range []int{math.MinInt, math.MaxInt, 1<<32 + 16, -1 << 40} {
		if got := impl.ExtraBits(sym); got != 0 {
			t.Errorf("ExtraBits of %d: %d", sym, got)
		}
	}
}

func TestRunsLeaveArgumentsAlone(t *testing.T) {
	lengths, room := spared([]int{4, 4, 4, 4, 0, 0, 0})
	all := []impl.Run{{Sym: 4}, {Sym: 16}, {Sym: 17}, {Sym: 9, Extra: 9}, {Sym: 9, Extra: 9}}
	list := all[:3]
	runs, _ := impl.RunsOf(lengths)
	back, _ := impl.RunsBack(list, 7)
	if !slices.Equal(runs, list) || !slices.Equal(back, lengths) {
		t.Errorf("%v, %v", runs, back)
	}
	for i := range runs {
		runs[i] = impl.Run{Sym: -9}
	}
	for i := range back {
		back[i] = -9
	}
	if !slices.Equal(room, []int{4, 4, 4, 4, 0, 0, 0, 77, 77, 77}) {
		t.Errorf("the lengths became %v", room)
	}
	if !slices.Equal(all, []impl.Run{{Sym: 4}, {Sym: 16}, {Sym: 17}, {Sym: 9, Extra: 9}, {Sym: 9, Extra: 9}}) {
		t.Errorf("the Runs became %v", all)
	}
	if again, ok := impl.RunsOf(lengths); !ok || !slices.Equal(again, list) {
		t.Errorf("the Runs are now %v", again)
	}
}
