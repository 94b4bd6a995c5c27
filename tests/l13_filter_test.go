package tests

import (
	"fmt"
	"math"
	"math/rand"
	"slices"
	"strings"
	"testing"

	"loop.example/g00099/impl"
)

const (
	lastKind = 4
	mostUnit = 8
)

// slowPaeth goes outward from a + b - c until one of the three is met.
func slowPaeth(a, b, c int) int {
	for far := 0; ; far++ {
		for _, n := range []int{a, b, c} {
			if n == a+b-c+far || n == a+b-c-far {
				return n
			}
		}
	}
}

// slowForetold takes rows that have unit bytes 0 ahead of them, so that there is always a byte.
func slowForetold(kind int, row, above []byte, at, unit int) int {
	a, b, c := int(row[at-unit]), int(above[at]), int(above[at-unit])
	switch kind {
	case 1:
		return a
	case 2:
		return b
	case 3:
		return (a + b - (a+b)%2) / 2
	case 4:
		return slowPaeth(a, b, c)
	}
	return 0
}

func slowFilter(kind int, row, above string, unit int) string {
	ahead := strings.Repeat("\x00", unit)
	longRow, longAbove := []byte(ahead+row), []byte(ahead+above)
	var told []byte
	for at := unit; at < len(longRow); at++ {
		told = append(told, byte((int(longRow[at])-slowForetold(kind, longRow, longAbove, at, unit)+512)%256))
	}
	return string(told)
}

func slowUnfilter(kind int, told, above string, unit int) string {
	ahead := strings.Repeat("\x00", unit)
	longRow, longAbove := []byte(ahead+told), []byte(ahead+above)
	for at := unit; at < len(longRow); at++ {
		longRow[at] = byte((int(longRow[at]) + slowForetold(kind, longRow, longAbove, at, unit)) % 256)
	}
	return string(longRow[unit:])
}

func slowWeight(row string) int {
	sum := 0
	for i := range len(row) {
		if row[i] > 127 {
			sum += 256 - int(row[i])
		} else {
			sum += int(row[i])
		}
	}
	return sum
}

// lightest are the kinds that weigh least, in order.
func lightest(row, above string, unit int) []int {
	var kinds []int
	least := math.MaxInt
	for kind := range lastKind + 1 {
		weight := slowWeight(slowFilter(kind, row, above, unit))
		if weight < least {
			kinds, least = nil, weight
		}
		if weight == least {
			kinds = append(kinds, kind)
		}
	}
	return kinds
}

// bytesInTurn goes through all bytes from first on by the step, and round.
func bytesInTurn(first, step, size int) string {
	list := make([]byte, size)
	for i := range list {
		list[i] = byte(first + i*step)
	}
	return string(list)
}

// nearText has bytes that are each a little more or less than the one ahead.
func nearText(r *rand.Rand, size int) string {
	list := make([]byte, size)
	last := byte(r.Intn(256))
	for i := range list {
		last += byte(r.Intn(7) - 3)
		list[i] = last
	}
	return string(list)
}

// filterRows are rows of so many bytes: all 0, all 255, all 127 and 128, each byte in turn, up and down, mixed.
func filterRows(r *rand.Rand, size int) []string {
	return []string{
		strings.Repeat("\x00", size),
		strings.Repeat("\xff", size),
		strings.Repeat("\x7f\x80", size)[:size],
		bytesInTurn(0, 1, size),
		bytesInTurn(256-size, 1, size),
		bytesInTurn(255, -1, size),
		bytesInTurn(r.Intn(256), 37, size),
		nearText(r, size),
		randomText(r, size),
	}
}

// filterSizes are none, one, fewer bytes than unit, as many, one more, whole pixels and not, and as many as there may be.
func filterSizes(unit int) []int {
	sizes := []int{0, 1, unit - 1, unit, unit + 1, 2*unit - 1, 2 * unit, 2*unit + 1, 3*unit + 1, 24 * unit, impl.MaxRow - 1, impl.MaxRow}
	slices.Sort(sizes)
	return slices.Compact(sizes)
}

// eachPair tells pairs of a row and the one above, with every unit.
func eachPair(seed int64, tell func(row, above string, unit int)) {
	r := rand.New(rand.NewSource(seed))
	for unit := 1; unit <= mostUnit; unit++ {
		for _, size := range filterSizes(unit) {
			rows := filterRows(r, size)
			for _, row := range rows {
				for _, above := range rows {
					tell(row, above, unit)
				}
				tell(row, randomText(r, size), unit)
			}
		}
	}
}

// checkP13 wants the row again, by every kind, and a best kind that weighs no more than any.
func checkP13(t *testing.T, row, above string, unit int) {
	t.Helper()
	weights := make([]int, lastKind+1)
	for kind := range weights {
		told, ok := impl.FilterRow(kind, row, above, unit)
		if !ok || len(told) != len(row) {
			t.Fatalf("kind %d, %q below %q, unit %d: %q, %v", kind, row, above, unit, told, ok)
		}
		if back, ok := impl.UnfilterRow(kind, told, above, unit); !ok || back != row {
			t.Fatalf("kind %d, %q below %q, unit %d, by %q: %q, %v", kind, row, above, unit, told, back, ok)
		}
		weights[kind] = impl.RowWeight(told)
	}
	best, ok := impl.BestFilter(row, above, unit)
	if first := slices.Index(weights, slices.Min(weights)); !ok || best != first {
		t.Fatalf("%q below %q, unit %d: the best kind is %d, %v; of the weights %v it is %d", row, above, unit, best, ok, weights, first)
	}
}

func TestP13RowsComeBack(t *testing.T) {
	told := 0
	eachPair(161, func(row, above string, unit int) {
		told++
		checkP13(t, row, above, unit)
	})
	if told < 8000 {
		t.Errorf("%d pairs", told)
	}
}

// Each byte below each, alone and behind a first pixel.
func TestP13EachByte(t *testing.T) {
	for up := range 256 {
		for n := range 256 {
			row, above := string([]byte{byte(n)}), string([]byte{byte(up)})
			checkP13(t, row, above, 1+n%mostUnit)
			if n%5 == up%5 {
				checkP13(t, row+above+row, above+row+row, 1)
				checkP13(t, "\x03\xfd"+row, "\x80\x7f"+above, 2)
			}
		}
	}
}

// What stands for a filtered row may be any bytes, and goes the other way round, too.
func TestP13FilteredRowsComeBack(t *testing.T) {
	eachPair(162, func(told, above string, unit int) {
		for kind := range lastKind + 1 {
			row, ok := impl.UnfilterRow(kind, told, above, unit)
			if !ok || row != slowUnfilter(kind, told, above, unit) {
				t.Fatalf("kind %d, %q below %q, unit %d: %q, %v", kind, told, above, unit, row, ok)
			}
			if back, ok := impl.FilterRow(kind, row, above, unit); !ok || back != told {
				t.Fatalf("kind %d, %q below %q, unit %d, by %q: %q, %v", kind, told, above, unit, row, back, ok)
			}
		}
	})
}

func TestPaeth(t *testing.T) {
	for _, c := range []struct {
		name       string
		a, b, c    int
		want, near int
	}{
		{"a", 3, 4, 5, 3, 2},
		{"a", 10, 2, 1, 10, 11},
		{"a", 200, 100, 90, 200, 210},
		{"b", 4, 3, 5, 3, 2},
		{"b", 2, 10, 1, 10, 11},
		{"b", 0, 1, 0, 1, 1},
		{"c", 1, 9, 5, 5, 5},
		{"c", 9, 1, 5, 5, 5},
		{"c", 0, 100, 60, 60, 40},
		{"c", 255, 0, 128, 128, 127},
		{"a, as near as c", 3, 6, 5, 3, 4},
		{"a, as near as c", 8, 5, 6, 8, 7},
		{"b, as near as c", 6, 3, 5, 3, 4},
		{"b, as near as c", 5, 8, 6, 8, 7},
		{"c, between a and b, which are as near as each other", 4, 6, 5, 5, 5},
		{"a and b alike", 7, 7, 2, 7, 12},
		{"a and c alike", 7, 2, 7, 2, 2},
		{"b and c alike", 2, 7, 7, 2, 2},
		{"all alike", 5, 5, 5, 5, 5},
		{"all 0", 0, 0, 0, 0, 0},
		{"a below 0", -10, -2, -1, -10, -11},
		{"b below 0", -2, -10, -1, -10, -11},
		{"c below 0", -9, -1, -5, -5, -5},
		{"a below 0, as near as c", -3, -6, -5, -3, -4},
		{"b below 0, as near as c", -6, -3, -5, -3, -4},
		{"a around 0, as near as c", -2, 1, 0, -2, -1},
		{"b around 0, as near as c", 1, -2, 0, -2, -1},
		{"c around 0", -4, 4, 0, 0, 0},
		{"all alike below 0", -7, -7, -7, -7, -7},
	} {
		if got := impl.Paeth(c.a, c.b, c.c); got != c.want || c.a+c.b-c.c != c.near {
			t.Errorf("%s: %d, %d, %d: %d; nearest to %d is %d", c.name, c.a, c.b, c.c, got, c.near, c.want)
		}
	}
}

func TestPaethOfMany(t *testing.T) {
	check := func(a, b, c int) {
		if got := impl.Paeth(a, b, c); got != slowPaeth(a, b, c) {
			t.Fatalf("%d, %d, %d: %d; want %d", a, b, c, got, slowPaeth(a, b, c))
		}
	}
	for a := -9; a <= 9; a++ {
		for b := -9; b <= 9; b++ {
			for c := -9; c <= 9; c++ {
				check(a, b, c)
			}
		}
	}
	r := rand.New(rand.NewSource(163))
	for range 20000 {
		check(r.Intn(256), r.Intn(256), r.Intn(256))
		check(r.Intn(2001)-1000, r.Intn(2001)-1000, r.Intn(2001)-1000)
	}
}

func TestPaethEdges(t *testing.T) {
	for _, c := range []struct{ a, b, c, want int }{
		{1000, 0, 0, 1000}, {0, 1000, 0, 1000}, {0, 900, 1000, 0}, {1000, 1000, 1000, 1000},
		{-1000, 0, 0, -1000}, {0, -1000, 0, -1000}, {0, -900, -1000, 0}, {-1000, -1000, -1000, -1000},
		{1000, 1000, -1000, 1000}, {-1000, -1000, 1000, -1000},
		{1000, -1000, 1000, -1000}, {-1000, 1000, -1000, 1000},
		{1000, -1000, 0, 0}, {1000, -1000, 1, 1}, {990, 1000, 1000, 990}, {-990, -1000, -1000, -990},
		{500, 1000, 700, 700}, {-700, -300, -1000, -300}, {1000, 600, 999, 600}, {-1000, -600, -999, -600},
	} {
		if got := impl.Paeth(c.a, c.b, c.c); got != c.want {
			t.Errorf("%d, %d, %d: %d; want %d", c.a, c.b, c.c, got, c.want)
		}
	}
}

// One beyond, and far numbers, among others of which none is 0.
func TestPaethRefuses(t *testing.T) {
	wrong := []int{-1001, 1001, -1002, 1002, -1024, 1024, -65536, 65536, 1 << 31, -1 << 31, 1<<32 + 5, -1<<32 - 5, 1<<32 - 5,
		1 << 62, -1 << 62, math.MaxInt, math.MaxInt - 1, math.MinInt, math.MinInt + 1}
	others := []int{-1000, -7, 5, 1000}
	check := func(a, b, c int) {
		if got := impl.Paeth(a, b, c); got != 0 {
			t.Errorf("%d, %d, %d: %d", a, b, c, got)
		}
	}
	for _, far := range wrong {
		for _, one := range others {
			for _, two := range others {
				check(far, one, two)
				check(one, far, two)
				check(one, two, far)
			}
			for _, more := range wrong {
				check(far, more, one)
				check(far, one, more)
				check(one, far, more)
			}
		}
		check(far, far, far)
	}
}

// Rows by every kind, in figures.
func TestFilterRow(t *testing.T) {
	for _, c := range []struct {
		row, above string
		unit       int
		want       [5]string
	}{
		{"", "", 1, [5]string{}},
		{"", "", 8, [5]string{}},
		{"\x00", "\x00", 1, [5]string{"\x00", "\x00", "\x00", "\x00", "\x00"}},
		{"\x07", "\x05", 1, [5]string{"\x07", "\x07", "\x02", "\x05", "\x02"}},
		{"\x01", "\x02", 1, [5]string{"\x01", "\x01", "\xff", "\x00", "\xff"}},
		{"\x00", "\xff", 1, [5]string{"\x00", "\x00", "\x01", "\x81", "\x01"}},
		{"\x01\x03\x02", "\x00\x00\x00", 1, [5]string{"\x01\x03\x02", "\x01\x02\xff", "\x01\x03\x02", "\x01\x03\x01", "\x01\x02\xff"}},
		{"\x0a\x14\x1e\x28", "\x01\x02\x03\x04", 1, [5]string{
			"\x0a\x14\x1e\x28", "\x0a\x0a\x0a\x0a", "\x09\x12\x1b\x24", "\x0a\x0e\x13\x17", "\x09\x0a\x0a\x0a"}},
		{"\x0a\x14\x1e\x28", "\x01\x02\x03\x04", 2, [5]string{
			"\x0a\x14\x1e\x28", "\x0a\x14\x14\x14", "\x09\x12\x1b\x24", "\x0a\x13\x18\x1c", "\x09\x12\x14\x14"}},
		{"\x0a\x14\x1e\x28", "\x01\x02\x03\x04", 3, [5]string{
			"\x0a\x14\x1e\x28", "\x0a\x14\x1e\x1e", "\x09\x12\x1b\x24", "\x0a\x13\x1d\x21", "\x09\x12\x1b\x1e"}},
		{"\x0a\x14\x1e\x28", "\x01\x02\x03\x04", 4, [5]string{
			"\x0a\x14\x1e\x28", "\x0a\x14\x1e\x28", "\x09\x12\x1b\x24", "\x0a\x13\x1d\x26", "\x09\x12\x1b\x24"}},
		{"\x0a\x14\x1e\x28", "\x01\x02\x03\x04", 5, [5]string{
			"\x0a\x14\x1e\x28", "\x0a\x14\x1e\x28", "\x09\x12\x1b\x24", "\x0a\x13\x1d\x26", "\x09\x12\x1b\x24"}},
		// Behind the first pixel each of the three is the nearest in turn: 9 of 9, 3, 2; 20 of 9, 20, 5; 15 of 10, 20, 15.
		{"\x09\x00", "\x02\x03", 1, [5]string{"\x09\x00", "\x09\xf7", "\x07\xfd", "\x08\xfa", "\x07\xf7"}},
		{"\x09\x00", "\x05\x14", 1, [5]string{"\x09\x00", "\x09\xf7", "\x04\xec", "\x07\xf2", "\x04\xec"}},
		{"\x0a\x00", "\x0f\x14", 1, [5]string{"\x0a\x00", "\x0a\xf6", "\xfb\xec", "\x03\xf1", "\xfb\xf1"}},
		// Halves of 255, 256, 509 and 510.
		{"\xfe\x00", "\x00\x01", 1, [5]string{"\xfe\x00", "\xfe\x02", "\xfe\xff", "\xfe\x81", "\xfe\x02"}},
		{"\xff\x00", "\x00\x01", 1, [5]string{"\xff\x00", "\xff\x01", "\xff\xff", "\xff\x80", "\xff\x01"}},
		{"\xff\x00", "\x00\xfe", 1, [5]string{"\xff\x00", "\xff\x01", "\xff\x02", "\xff\x02", "\xff\x01"}},
		{"\xff\x00", "\x00\xff", 1, [5]string{"\xff\x00", "\xff\x01", "\xff\x01", "\xff\x01", "\xff\x01"}},
	} {
		for kind, want := range c.want {
			if told, ok := impl.FilterRow(kind, c.row, c.above, c.unit); !ok || told != want {
				t.Errorf("kind %d, %q below %q, unit %d: %q, %v; want %q", kind, c.row, c.above, c.unit, told, ok, want)
			}
			if row, ok := impl.UnfilterRow(kind, want, c.above, c.unit); !ok || row != c.row {
				t.Errorf("kind %d, %q told below %q, unit %d: %q, %v; want %q", kind, want, c.above, c.unit, row, ok, c.row)
			}
		}
	}
}

func TestFilterRowOfMany(t *testing.T) {
	eachPair(164, func(row, above string, unit int) {
		for kind := range lastKind + 1 {
			if told, ok := impl.FilterRow(kind, row, above, unit); !ok || told != slowFilter(kind, row, above, unit) {
				t.Fatalf("kind %d, %q below %q, unit %d: %q, %v; want %q", kind, row, above, unit, told, ok, slowFilter(kind, row, above, unit))
			}
		}
	})
}

// In the first pixel there is nothing ahead and nothing above that: each byte hangs on itself and the one above alone.
func TestFilterRowFirstPixel(t *testing.T) {
	r := rand.New(rand.NewSource(165))
	for unit := 1; unit <= mostUnit; unit++ {
		for _, size := range filterSizes(unit) {
			row, above := randomText(r, size), randomText(r, size)
			for kind := range lastKind + 1 {
				told, ok := impl.FilterRow(kind, row, above, unit)
				if !ok || len(told) != size {
					t.Fatalf("kind %d, %d bytes, unit %d: %q, %v", kind, size, unit, told, ok)
				}
				for at := range min(unit, size) {
					foretold := []byte{0, 0, above[at], above[at] / 2, above[at]}[kind]
					if told[at] != row[at]-foretold {
						t.Errorf("kind %d, unit %d, byte %d of %q below %q: %d, not %d", kind, unit, at, row, above, told[at], row[at]-foretold)
					}
				}
			}
		}
	}
}

// A byte behind the first pixel hangs on just the bytes that its kind names.
func TestFilterRowHangsOnNamedBytes(t *testing.T) {
	for unit := 1; unit <= mostUnit; unit++ {
		for at := unit; at < 3*unit; at++ {
			zeros := strings.Repeat("\x00", 3*unit)
			for place := range zeros {
				other := turnedAt(zeros, place, 64)
				for kind, want := range [][2]byte{{0, 0}, {192, 0}, {0, 192}, {224, 224}, {192, 192}} {
					left, _ := impl.FilterRow(kind, other, zeros, unit)
					up, _ := impl.FilterRow(kind, zeros, other, unit)
					wantLeft, wantUp := byte(0), byte(0)
					if place == at-unit {
						wantLeft = want[0]
					}
					if place == at {
						wantLeft, wantUp = 64, want[1]
					}
					// The one above a by itself moves nothing: of 0, 0 and 64 the first is nearer to -64 than the last.
					if left[at] != wantLeft || up[at] != wantUp {
						t.Fatalf("kind %d, unit %d, 64 at %d: byte %d is %d and %d, not %d and %d", kind, unit, place, at, left[at], up[at], wantLeft, wantUp)
					}
				}
			}
		}
	}
}

type rowFilter struct {
	name string
	call func(kind int, row, above string, unit int) (string, bool)
}

func rowFilters() []rowFilter {
	return []rowFilter{{"FilterRow", impl.FilterRow}, {"UnfilterRow", impl.UnfilterRow}}
}

func checkNoFilter(t *testing.T, name string, kind int, row, above string, unit int) {
	t.Helper()
	for _, f := range rowFilters() {
		if told, ok := f.call(kind, row, above, unit); ok || told != "" {
			t.Errorf("%s of %s: kind %d, %d bytes below %d, unit %d: %q, %v", f.name, name, kind, len(row), len(above), unit, told, ok)
		}
	}
}

func checkSomeFilter(t *testing.T, name string, kind int, row, above string, unit int) {
	t.Helper()
	for _, f := range rowFilters() {
		if told, ok := f.call(kind, row, above, unit); !ok || len(told) != len(row) {
			t.Errorf("%s of %s: kind %d, %d bytes below %d, unit %d: %q, %v", f.name, name, kind, len(row), len(above), unit, told, ok)
		}
	}
}

// wrongUnits and wrongKinds have those beside the edges, and such as are right in their lower bits alone.
func wrongUnits() []int {
	return []int{0, -1, -2, -8, 9, 10, 16, 200, 256, 257, 264, 1 << 32, 1<<32 + 1, 1<<32 + 8, -1<<32 + 1, 1 << 62, math.MaxInt, math.MinInt, math.MinInt + 1}
}

func wrongKinds() []int {
	return []int{-1, -2, -4, -5, 5, 6, 7, 8, 255, 256, 257, 260, 1 << 32, 1<<32 + 4, -1 << 32, -1<<32 + 1, 1 << 62, math.MaxInt, math.MinInt, math.MinInt + 1}
}

func TestFiltersRefuseKindsAndUnits(t *testing.T) {
	for _, size := range []int{0, 1, 8, 9, impl.MaxRow} {
		row := strings.Repeat("\x05", size)
		for kind := range lastKind + 1 {
			for unit := 1; unit <= mostUnit; unit++ {
				checkSomeFilter(t, "right ones", kind, row, row, unit)
			}
			for _, unit := range wrongUnits() {
				checkNoFilter(t, "a wrong unit", kind, row, row, unit)
			}
		}
		for _, kind := range wrongKinds() {
			for unit := 1; unit <= mostUnit; unit++ {
				checkNoFilter(t, "a wrong kind", kind, row, row, unit)
			}
			checkNoFilter(t, "a wrong kind and a wrong unit", kind, row, row, 0)
			checkNoFilter(t, "a wrong kind and a wrong unit", kind, row, row, 9)
		}
	}
}

func TestFiltersRefuseAbove(t *testing.T) {
	for _, unit := range []int{1, 3, 8} {
		for _, size := range []int{0, 1, 2, 3, 7, 8, 9, 100, impl.MaxRow - 1, impl.MaxRow} {
			row := strings.Repeat("\x05", size)
			for kind := range lastKind + 1 {
				for _, other := range []int{0, size - 1, size + 1, size + unit, 2*size + 1, impl.MaxRow, impl.MaxRow + 1, 256 + size, 1 << 16} {
					if other >= 0 && other != size {
						checkNoFilter(t, "a row above of another length", kind, row, strings.Repeat("\x05", other), unit)
					}
				}
			}
		}
	}
}

func TestFiltersRefuseLongRows(t *testing.T) {
	for kind := range lastKind + 1 {
		for unit := 1; unit <= mostUnit; unit++ {
			for _, size := range []int{impl.MaxRow - 1, impl.MaxRow} {
				row := strings.Repeat("\x05", size)
				checkSomeFilter(t, "long rows", kind, row, row, unit)
			}
			for _, size := range []int{impl.MaxRow + 1, impl.MaxRow + 2, 256, impl.MaxBytes, 1 << 16} {
				row := strings.Repeat("\x00", size)
				checkNoFilter(t, "too long rows", kind, row, row, unit)
				checkNoFilter(t, "too long rows", kind, row, row[:impl.MaxRow], unit)
			}
		}
	}
}

func TestRowWeight(t *testing.T) {
	for row, want := range map[string]int{
		"": 0, "\x00": 0, "\x01": 1, "\x7e": 126, "\x7f": 127, "\x80": 128, "\x81": 127, "\xfe": 2, "\xff": 1,
		"\xff\x02": 3, "\x7f\x80": 255, "\x00\x7f\x80\xff": 256, "\x00\x00\x00": 0, "\xff\xff\xff": 3, "\x80\x80": 256,
	} {
		if got := impl.RowWeight(row); got != want {
			t.Errorf("%q weighs %d, not %d", row, got, want)
		}
	}
	for n := range 256 {
		if got := impl.RowWeight(string([]byte{byte(n)})); got != slowWeight(string([]byte{byte(n)})) {
			t.Errorf("the byte %d weighs %d", n, got)
		}
	}
	r := rand.New(rand.NewSource(166))
	for size := range impl.MaxRow + 1 {
		for _, row := range filterRows(r, size) {
			if got := impl.RowWeight(row); got != slowWeight(row) {
				t.Errorf("%q weighs %d, not %d", row, got, slowWeight(row))
			}
		}
	}
}

func TestRowWeightOfLongRows(t *testing.T) {
	for _, c := range []struct {
		text string
		size int
		want int
	}{
		{"\x80", 199, 25472}, {"\x80", 200, 25600}, {"\x7f", 200, 25400}, {"\xff", 200, 200}, {"\x00", 200, 0},
		{"\x80", 201, -1}, {"\xff", 201, -1}, {"\x00", 201, -1}, {"\x00", 202, -1}, {"\x00", 256, -1}, {"\x01", 400, -1}, {"\x01", 1 << 16, -1},
	} {
		if got := impl.RowWeight(strings.Repeat(c.text, c.size)); got != c.want {
			t.Errorf("%d of %q weigh %d, not %d", c.size, c.text, got, c.want)
		}
	}
}

// Weights of all five kinds, in figures, and the best of them.
func TestBestFilter(t *testing.T) {
	for _, c := range []struct {
		name       string
		row, above string
		unit       int
		weights    [5]int
		want       int
	}{
		{"nothing", "\x01\xff", "\x64\x64", 1, [5]int{2, 3, 200, 100, 101}, 0},
		{"ahead", "\x32\x33\x34", "\x00\x40\x00", 1, [5]int{153, 52, 115, 83, 115}, 1},
		{"above", "\x0a\x28", "\x18\x28", 1, [5]int{50, 40, 14, 17, 30}, 2},
		{"the half", "\x0a\x0c\x0e", "\x14\x0e\x10", 1, [5]int{36, 14, 14, 0, 12}, 3},
		{"Paeth", "\x0a\x22\x22", "\x0a\x1e\x1e", 1, [5]int{78, 34, 8, 21, 4}, 4},
		{"all alike", "\x00\x00", "\x00\x00", 1, [5]int{0, 0, 0, 0, 0}, 0},
		{"no bytes", "", "", 1, [5]int{0, 0, 0, 0, 0}, 0},
		{"nothing and ahead", "\x05", "\x32", 1, [5]int{5, 5, 45, 20, 45}, 0},
		{"ahead and Paeth", "\x07\x07\x07", "\x00\x00\x00", 1, [5]int{21, 7, 21, 15, 7}, 1},
		{"above and Paeth", "\x07\x07", "\x07\x07", 1, [5]int{14, 7, 0, 4, 0}, 2},
		{"above and Paeth, in one pixel", "\x07\x09", "\x07\x09", 2, [5]int{16, 16, 0, 9, 0}, 2},
	} {
		for kind, want := range c.weights {
			told, _ := impl.FilterRow(kind, c.row, c.above, c.unit)
			if got := impl.RowWeight(told); got != want {
				t.Errorf("%s: by the kind %d %q weighs %d, not %d", c.name, kind, told, got, want)
			}
		}
		if got, ok := impl.BestFilter(c.row, c.above, c.unit); !ok || got != c.want {
			t.Errorf("%s: %d, %v; want %d", c.name, got, ok, c.want)
		}
	}
}

// Among small rows each kind is the best alone, and every two are as good as each other.
func TestBestFilterOfMany(t *testing.T) {
	r := rand.New(rand.NewSource(167))
	alone, ties := map[int]int{}, map[[2]int]int{}
	for range 60000 {
		size, unit, wide := r.Intn(5), 1+r.Intn(2), 1+r.Intn(9)
		row, above := bytesAround(r, size, wide), bytesAround(r, size, wide)
		want := lightest(row, above, unit)
		if got, ok := impl.BestFilter(row, above, unit); !ok || got != want[0] {
			t.Fatalf("%q below %q, unit %d: %d, %v; want the first of %v", row, above, unit, got, ok, want)
		}
		if len(want) == 1 {
			alone[want[0]]++
		}
		for _, second := range want[1:] {
			ties[[2]int{want[0], second}]++
		}
	}
	for kind := range lastKind + 1 {
		if alone[kind] == 0 {
			t.Errorf("the kind %d was never the best alone", kind)
		}
		for second := kind + 1; second <= lastKind; second++ {
			if ties[[2]int{kind, second}] == 0 {
				t.Errorf("the kinds %d and %d were never as good as each other", kind, second)
			}
		}
	}
}

// bytesAround are bytes a little above and below 0.
func bytesAround(r *rand.Rand, size, wide int) string {
	list := make([]byte, size)
	for i := range list {
		list[i] = byte(r.Intn(2*wide+1) - wide)
	}
	return string(list)
}

func TestBestFilterOfLongRows(t *testing.T) {
	eachPair(168, func(row, above string, unit int) {
		want := lightest(row, above, unit)
		if got, ok := impl.BestFilter(row, above, unit); !ok || got != want[0] {
			t.Fatalf("%q below %q, unit %d: %d, %v; want the first of %v", row, above, unit, got, ok, want)
		}
	})
}

func checkNoBest(t *testing.T, name, row, above string, unit int) {
	t.Helper()
	if kind, ok := impl.BestFilter(row, above, unit); ok || kind != 0 {
		t.Errorf("%s: %d bytes below %d, unit %d: %d, %v", name, len(row), len(above), unit, kind, ok)
	}
}

// Rows for which another kind than 0 would be the best, were they right.
func TestBestFilterRefuses(t *testing.T) {
	for _, size := range []int{0, 1, 2, 8, 9, 100, impl.MaxRow} {
		row := strings.Repeat("\x32", size)
		for unit := 1; unit <= mostUnit; unit++ {
			if kind, ok := impl.BestFilter(row, row, unit); !ok || (kind == 2) != (size > 0) {
				t.Errorf("%d bytes, unit %d: %d, %v", size, unit, kind, ok)
			}
			for _, other := range []int{0, size - 1, size + 1, size + unit, impl.MaxRow + 1, 1 << 16} {
				if other >= 0 && other != size {
					checkNoBest(t, "a row above of another length", row, strings.Repeat("\x32", other), unit)
				}
			}
		}
		for _, unit := range wrongUnits() {
			checkNoBest(t, "a wrong unit", row, row, unit)
		}
	}
	for _, size := range []int{impl.MaxRow + 1, impl.MaxRow + 2, 256, impl.MaxBytes, 1 << 16} {
		row := strings.Repeat("\x32", size)
		for unit := 1; unit <= mostUnit; unit++ {
			checkNoBest(t, "a too long row", row, row, unit)
			checkNoBest(t, "a too long row", row, row[:impl.MaxRow], unit)
		}
		checkNoBest(t, "a too long row and a wrong unit", row, row, 0)
	}
}

// What was refused or told ahead of a call changes nothing.
func TestFiltersKeepNothing(t *testing.T) {
	row, above := bytesInTurn(3, 5, 30), bytesInTurn(250, 7, 30)
	tell := func() string {
		var all strings.Builder
		for kind := range lastKind + 1 {
			told, _ := impl.FilterRow(kind, row, above, 3)
			back, _ := impl.UnfilterRow(kind, row, above, 3)
			best, _ := impl.BestFilter(row, above, 3)
			fmt.Fprintf(&all, "%q %q %d %d\n", told, back, best, impl.RowWeight(told))
		}
		return all.String()
	}
	first := tell()
	impl.FilterRow(5, row, above, 3)
	impl.UnfilterRow(1, row, above[1:], 9)
	impl.BestFilter(row, above, 0)
	impl.RowWeight(strings.Repeat("\xff", impl.MaxRow+1))
	if second := tell(); second != first {
		t.Errorf("a second time: %s; the first time: %s", second, first)
	}
}
