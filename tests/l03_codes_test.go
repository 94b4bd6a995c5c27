package tests

import (
	"math"
	"math/rand"
	"slices"
	"strings"
	"testing"

	"loop.example/g00099/impl"
)

// fullness is the document's sum, over lengths that are known to be lengths.
func fullness(lengths []int) int {
	sum := 0
	for _, n := range lengths {
		if n > 0 {
			sum += 1 << (15 - n)
		}
	}
	return sum
}

// slowKind asks the document's questions one by one.
func slowKind(lengths []int) int {
	used, last := 0, 0
	for _, n := range lengths {
		if n < 0 || n > 15 {
			return impl.CodeNone
		}
		if n != 0 {
			used, last = used+1, n
		}
	}
	switch full := fullness(lengths); {
	case len(lengths) > 288:
		return impl.CodeNone
	case used == 0:
		return impl.CodeEmpty
	case full == 32768:
		return impl.CodeWhole
	case full > 32768:
		return impl.CodeOver
	case used == 1 && last == 1:
		return impl.CodeSingle
	}
	return impl.CodeLoose
}

// slowCodes tells each code as a text of figures 0 and 1: with the codes laid side by side in the unit
// interval, the shorter ones and the lesser symbols first, a code is where its own piece begins.
func slowCodes(lengths []int) []string {
	codes := make([]string, len(lengths))
	place := 0
	for n := 1; n <= 15; n++ {
		for symbol, length := range lengths {
			if length != n {
				continue
			}
			for bit := 14; bit >= 15-n; bit-- {
				codes[symbol] += string(rune('0' + place>>bit&1))
			}
			place += 1 << (15 - n)
		}
	}
	return codes
}

// figures are the n lowest bits of a code, the highest first.
func figures(code, n int) string {
	var text strings.Builder
	for i := n - 1; i >= 0; i-- {
		text.WriteByte('0' + byte(code>>i&1))
	}
	return text.String()
}

// outOfFigures lays figures 0 and 1 into an Out, the first one first.
func outOfFigures(text string) impl.Out {
	bits := make([]int, len(text))
	for i := range bits {
		bits[i] = int(text[i] - '0')
	}
	return impl.Out{Text: textOfBits(bits), Count: len(bits)}
}

// wholeLengths are the lengths of that many codes that are full, the longest at most deep; deep codes are likely.
func wholeLengths(r *rand.Rand, size, deep int) []int {
	list := []int{1, 1}
	for len(list) < size {
		i := r.Intn(len(list))
		if r.Intn(2) == 0 {
			i = len(list) - 1
		}
		if list[i] < deep {
			list[i]++
			list = append(list, list[i])
		}
	}
	r.Shuffle(size, func(i, j int) { list[i], list[j] = list[j], list[i] })
	return list
}

// withGaps lays symbols without a code between the others.
func withGaps(r *rand.Rand, lengths []int) []int {
	var list []int
	for _, n := range lengths {
		for r.Intn(3) == 0 {
			list = append(list, 0)
		}
		list = append(list, n)
	}
	return list
}

// looser takes some codes away, and makes some longer.
func looser(r *rand.Rand, lengths []int) []int {
	list := slices.Clone(lengths)
	for range 1 + r.Intn(len(list)) {
		i := r.Intn(len(list))
		if list[i] == 15 || r.Intn(2) == 0 {
			list[i] = 0
		} else if list[i] > 0 {
			list[i]++
		}
	}
	return list
}

func fixedFirst() []int {
	return slices.Concat(slices.Repeat([]int{8}, 144), slices.Repeat([]int{9}, 112), slices.Repeat([]int{7}, 24), slices.Repeat([]int{8}, 8))
}

// stair has one code of each length up to 15, and is full to 2^15 with one more of 15.
func stair(more ...int) []int {
	return append([]int{1, 2, 3, 4, 5, 6, 7, 8, 9, 10, 11, 12, 13, 14, 15}, more...)
}

// codeLists are lengths whose codes there are: whole, single, loose and empty ones.
func codeLists() [][]int {
	r := rand.New(rand.NewSource(3))
	list := [][]int{
		nil, {}, {0}, {0, 0, 0}, make([]int, 288),
		{1}, {0, 1}, {0, 0, 1, 0},
		{2}, {15}, {0, 0, 7}, {2, 2}, {1, 2}, {3, 1}, {15, 1}, {15, 15},
		{1, 1}, {2, 1, 3, 3}, {2, 2, 2, 2}, {1, 0, 1},
		stair(), stair(15), append([]int{15, 15}, 14, 13, 12, 11, 10, 9, 8, 7, 6, 5, 4, 3, 2, 1),
		fixedFirst(), slices.Repeat([]int{5}, 32), slices.Repeat([]int{5}, 30),
		slices.Repeat([]int{15}, 288), slices.Repeat([]int{9}, 288),
	}
	for _, size := range []int{2, 3, 4, 7, 19, 30, 64, 120} {
		for _, deep := range []int{7, 15} {
			whole := wholeLengths(r, size, deep)
			list = append(list, whole, withGaps(r, whole), looser(r, whole), withGaps(r, looser(r, whole)))
		}
	}
	return append(list, wholeLengths(r, 286, 15), looser(r, wholeLengths(r, 288, 15)))
}

// noCodes are lists that are no lengths, or are full to more than 2^15.
func noCodes() [][]int {
	return [][]int{
		{-1}, {16}, {1, -1}, {1, 16}, {0, 0, 17}, {math.MinInt}, {math.MaxInt}, {1, 1, 256},
		make([]int, 289), append(fixedFirst(), 0), slices.Repeat([]int{15}, 289), append(make([]int, 288), 1),
		{1, 1, 1}, {1, 1, 15}, {15, 1, 1}, stair(15, 15), append(fixedFirst()[1:], 7),
		slices.Repeat([]int{1}, 288), slices.Repeat([]int{8}, 257),
	}
}

// shortLists calls with each list of up to four lengths of some that there are.
func shortLists(each func([]int)) {
	lengths := []int{0, 1, 2, 3, 4, 15}
	for size := 0; size <= 4; size++ {
		count := int(math.Pow(float64(len(lengths)), float64(size)))
		for i := range count {
			list := make([]int, size)
			for j := range list {
				list[j] = lengths[i%len(lengths)]
				i /= len(lengths)
			}
			each(list)
		}
	}
}

func TestCodeKind(t *testing.T) {
	for _, c := range []struct {
		lengths []int
		want    int
	}{
		{[]int{-1}, impl.CodeNone},
		{[]int{16}, impl.CodeNone},
		{[]int{1, 1, -1}, impl.CodeNone},
		{[]int{1, 1, 1, 16}, impl.CodeNone},
		{[]int{math.MinInt, 1}, impl.CodeNone},
		{[]int{1, math.MaxInt}, impl.CodeNone},
		{make([]int, 289), impl.CodeNone},
		{append(fixedFirst(), 0), impl.CodeNone},
		{slices.Repeat([]int{1}, 289), impl.CodeNone},
		{nil, impl.CodeEmpty},
		{[]int{}, impl.CodeEmpty},
		{[]int{0}, impl.CodeEmpty},
		{make([]int, 288), impl.CodeEmpty},
		{[]int{1, 1}, impl.CodeWhole},
		{[]int{0, 1, 0, 1, 0}, impl.CodeWhole},
		{[]int{2, 1, 3, 3}, impl.CodeWhole},
		{stair(15), impl.CodeWhole},
		{fixedFirst(), impl.CodeWhole},
		{[]int{1}, impl.CodeSingle},
		{[]int{0, 1, 0}, impl.CodeSingle},
		{append(make([]int, 287), 1), impl.CodeSingle},
		{[]int{2}, impl.CodeLoose},
		{[]int{15}, impl.CodeLoose},
		{[]int{2, 2}, impl.CodeLoose},
		{[]int{1, 2}, impl.CodeLoose},
		{stair(), impl.CodeLoose},
		{fixedFirst()[1:], impl.CodeLoose},
		{slices.Repeat([]int{15}, 288), impl.CodeLoose},
		{[]int{1, 1, 1}, impl.CodeOver},
		{[]int{1, 1, 15}, impl.CodeOver},
		{stair(15, 15), impl.CodeOver},
		{append(fixedFirst()[1:], 7), impl.CodeOver},
		{slices.Repeat([]int{1}, 288), impl.CodeOver},
	} {
		if got := impl.CodeKind(c.lengths); got != c.want {
			t.Errorf("CodeKind of %d lengths %v: %d, want %d", len(c.lengths), c.lengths, got, c.want)
		}
	}
	shortLists(func(lengths []int) {
		if got, want := impl.CodeKind(lengths), slowKind(lengths); got != want {
			t.Errorf("CodeKind of %v: %d, want %d", lengths, got, want)
		}
	})
	for _, lengths := range slices.Concat(codeLists(), noCodes()) {
		if got, want := impl.CodeKind(lengths), slowKind(lengths); got != want {
			t.Errorf("CodeKind of %v: %d, want %d", lengths, got, want)
		}
	}
}

func checkCodes(t *testing.T, lengths []int) {
	t.Helper()
	codes, ok := impl.CodesOf(lengths)
	if !ok || len(codes) != len(lengths) {
		t.Fatalf("CodesOf of %v: %d codes, %v", lengths, len(codes), ok)
	}
	for symbol, want := range slowCodes(lengths) {
		n := lengths[symbol]
		if codes[symbol] < 0 || codes[symbol] >= 1<<n || figures(codes[symbol], n) != want {
			t.Fatalf("CodesOf of %v: symbol %d has %d, want %q", lengths, symbol, codes[symbol], want)
		}
	}
}

func TestCodesOf(t *testing.T) {
	for _, c := range []struct{ lengths, want []int }{
		{nil, nil},
		{[]int{0, 0}, []int{0, 0}},
		{[]int{1}, []int{0}},
		{[]int{0, 5, 0}, []int{0, 0, 0}},
		{[]int{3, 3, 3, 3, 3, 2, 4, 4}, []int{2, 3, 4, 5, 6, 0, 14, 15}},
		{[]int{15, 1, 0, 15}, []int{1 << 14, 0, 0, 1<<14 + 1}},
		{stair(15), []int{0, 2, 6, 14, 30, 62, 126, 254, 510, 1022, 2046, 4094, 8190, 16382, 32766, 32767}},
	} {
		if got, ok := impl.CodesOf(c.lengths); !ok || !slices.Equal(got, c.want) {
			t.Errorf("CodesOf of %v: %v, %v; want %v", c.lengths, got, ok, c.want)
		}
	}
	for _, lengths := range codeLists() {
		checkCodes(t, lengths)
	}
	shortLists(func(lengths []int) {
		if fullness(lengths) <= 32768 {
			checkCodes(t, lengths)
		} else if got, ok := impl.CodesOf(lengths); ok || len(got) != 0 {
			t.Errorf("CodesOf of %v: %v, %v", lengths, got, ok)
		}
	})
	for _, lengths := range noCodes() {
		if got, ok := impl.CodesOf(lengths); ok || len(got) != 0 {
			t.Errorf("CodesOf of %v: %v, %v", lengths, got, ok)
		}
	}
}

func TestP3CodesAreToldApartByTheirBeginnings(t *testing.T) {
	check := func(lengths []int) {
		codes, ok := impl.CodesOf(lengths)
		if !ok {
			t.Fatalf("no codes of %v", lengths)
		}
		var all []string
		for symbol, n := range lengths {
			if n > 0 {
				all = append(all, figures(codes[symbol], n))
			} else if codes[symbol] != 0 {
				t.Fatalf("of %v symbol %d has no code, and %d", lengths, symbol, codes[symbol])
			}
		}
		// In this order a code stands right ahead of one that it begins.
		slices.Sort(all)
		for i := 1; i < len(all); i++ {
			if strings.HasPrefix(all[i], all[i-1]) {
				t.Fatalf("of %v the code %s begins with %s", lengths, all[i], all[i-1])
			}
		}
	}
	for _, lengths := range codeLists() {
		check(lengths)
	}
	shortLists(func(lengths []int) {
		if fullness(lengths) <= 32768 {
			check(lengths)
		}
	})
}

// symbolsOf are the symbols that have a code.
func symbolsOf(lengths []int) []int {
	var list []int
	for symbol, n := range lengths {
		if n > 0 {
			list = append(list, symbol)
		}
	}
	return list
}

// someSymbols are all symbols that have a code, and as many by chance, mixed; none where none has one.
func someSymbols(r *rand.Rand, lengths []int) []int {
	have := symbolsOf(lengths)
	list := slices.Clone(have)
	for range have {
		list = append(list, have[r.Intn(len(have))])
	}
	r.Shuffle(len(list), func(i, j int) { list[i], list[j] = list[j], list[i] })
	return list
}

func TestP3SymbolsThatArePutAreTakenAgain(t *testing.T) {
	r := rand.New(rand.NewSource(33))
	for _, lengths := range codeLists() {
		codes := slowCodes(lengths)
		for _, ahead := range []string{"", "1", "1011010", "11110000", "101010101"} {
			list := someSymbols(r, lengths)
			want := ahead
			for _, symbol := range list {
				want += codes[symbol]
			}
			w, ok := impl.PutSymbols(outOfFigures(ahead), lengths, list)
			if !ok || w != outOfFigures(want) || !impl.OutOk(w) {
				t.Fatalf("PutSymbols of %v by %v: %#v, %v; want %s", list, lengths, w, ok, want)
			}
			b := impl.Bits{Text: w.Text, At: len(ahead)}
			for i, symbol := range list {
				got, behind, ok := impl.TakeSymbol(lengths, b)
				if !ok || got != symbol || behind != (impl.Bits{Text: w.Text, At: b.At + lengths[symbol]}) {
					t.Fatalf("TakeSymbol %d of %v by %v: %d, at %d, %v", i, list, lengths, got, behind.At, ok)
				}
				b = behind
			}
			if b.At != w.Count {
				t.Fatalf("%v by %v: taken up to %d of %d bits", list, lengths, b.At, w.Count)
			}
		}
	}
}

func TestP3TwoCodesOneBehindTheOther(t *testing.T) {
	first, second := []int{2, 1, 3, 3}, []int{0, 2, 2, 0, 2}
	w, ok := impl.PutSymbols(impl.Out{}, first, []int{3, 1, 0})
	w, right := impl.PutSymbols(w, second, []int{4, 1})
	w, good := impl.PutSymbols(w, first, []int{2})
	if want := outOfFigures("111" + "0" + "10" + "10" + "00" + "110"); !ok || !right || !good || w != want {
		t.Fatalf("%#v, want %#v", w, want)
	}
	b := impl.Bits{Text: w.Text}
	for i, x := range []struct {
		lengths []int
		want    int
	}{{first, 3}, {first, 1}, {first, 0}, {second, 4}, {second, 1}, {first, 2}} {
		var got int
		if got, b, ok = impl.TakeSymbol(x.lengths, b); !ok || got != x.want {
			t.Fatalf("symbol %d: %d, %v; want %d", i, got, ok, x.want)
		}
	}
}

// checkTake holds TakeSymbol against a look at each code, of bits that are told as figures behind three others.
func checkTake(t *testing.T, lengths []int, text string) {
	t.Helper()
	w := outOfFigures("101" + text)
	// The bits that fill the last byte are there for a reader.
	text += strings.Repeat("0", 8*len(w.Text)-w.Count)
	symbol, b, right := 0, impl.Bits{}, false
	for s, code := range slowCodes(lengths) {
		if code != "" && strings.HasPrefix(text, code) {
			symbol, b, right = s, impl.Bits{Text: w.Text, At: 3 + len(code)}, true
		}
	}
	if got, behind, ok := impl.TakeSymbol(lengths, impl.Bits{Text: w.Text, At: 3}); got != symbol || behind != b || ok != right {
		t.Fatalf("TakeSymbol of %s by %v: %d, %#v, %v; want %d, %#v, %v", text, lengths, got, behind, ok, symbol, b, right)
	}
}

func TestTakeSymbolOfAnyBits(t *testing.T) {
	r := rand.New(rand.NewSource(34))
	for _, lengths := range codeLists() {
		checkTake(t, lengths, "")
		for range 60 {
			checkTake(t, lengths, figures(r.Intn(1<<21), r.Intn(22)))
		}
		for _, code := range slowCodes(lengths) {
			checkTake(t, lengths, code)
			if code != "" {
				checkTake(t, lengths, code[:len(code)-1])
			}
		}
	}
	shortLists(func(lengths []int) {
		if fullness(lengths) <= 32768 {
			for i := range 32 {
				checkTake(t, lengths, figures(i, 5))
			}
		}
	})
}

func TestTakeSymbolEdges(t *testing.T) {
	full := strings.Repeat("\xff", impl.MaxBytes)
	whole, ends := []int{2, 1, 3, 3}, 8*impl.MaxBytes
	for _, c := range []struct {
		name    string
		lengths []int
		b       impl.Bits
		symbol  int
		size    int
	}{
		{"a code of one bit", whole, impl.Bits{Text: "\x00"}, 1, 1},
		{"the last bit", whole, impl.Bits{Text: "\x7f", At: 7}, 1, 1},
		{"the last three bits", whole, impl.Bits{Text: "\xe0", At: 5}, 3, 3},
		{"over a byte", whole, impl.Bits{Text: "\x80\x01", At: 7}, 2, 3},
		{"the single code", []int{0, 1}, impl.Bits{Text: "\x00", At: 7}, 1, 1},
		{"a code of fifteen bits", stair(15), impl.Bits{Text: "\xff\x7f"}, 15, 15},
		{"the end of MaxBytes", whole, impl.Bits{Text: full, At: ends - 3}, 3, 3},
		{"not the single code", []int{0, 1}, impl.Bits{Text: "\x01\x00\x00"}, 0, 0},
		{"not a loose code", []int{2, 2}, impl.Bits{Text: "\x01\x00\x00"}, 0, 0},
		{"not the code that the stair leaves", stair(), impl.Bits{Text: "\xff\xff\xff"}, 0, 0},
		{"no code at all", []int{0, 0}, impl.Bits{Text: "\x00\x00\x00"}, 0, 0},
		{"no symbol at all", nil, impl.Bits{Text: "\x00\x00\x00"}, 0, 0},
		{"an end within a code", whole, impl.Bits{Text: "\xc0", At: 6}, 0, 0},
		{"an end within a code of fifteen bits", stair(15), impl.Bits{Text: "\xff\xff", At: 2}, 0, 0},
		{"an end within a code at MaxBytes", whole, impl.Bits{Text: full, At: ends - 2}, 0, 0},
		{"the end", whole, impl.Bits{Text: "\x00", At: 8}, 0, 0},
		{"the end of nothing", whole, impl.Bits{}, 0, 0},
		{"a place past the end", whole, impl.Bits{Text: "\x00", At: 9}, 0, 0},
		{"a place far past the end", whole, impl.Bits{Text: "\x00", At: math.MaxInt}, 0, 0},
		{"a place below 0", whole, impl.Bits{Text: "\x00", At: -1}, 0, 0},
		{"a place far below 0", whole, impl.Bits{Text: "\x00", At: math.MinInt}, 0, 0},
		{"a text past MaxBytes", whole, impl.Bits{Text: full + "\x00"}, 0, 0},
	} {
		right, want := c.size > 0, impl.Bits{}
		if right {
			want = impl.Bits{Text: c.b.Text, At: c.b.At + c.size}
		}
		if got, b, ok := impl.TakeSymbol(c.lengths, c.b); got != c.symbol || b != want || ok != right {
			t.Errorf("%s: %d, at %d of %d bytes, %v", c.name, got, b.At, len(b.Text), ok)
		}
	}
	for _, lengths := range noCodes() {
		for _, text := range []string{"", "\x00\x00\x00", "\xff\xff\xff", full} {
			if got, b, ok := impl.TakeSymbol(lengths, impl.Bits{Text: text}); got != 0 || b != (impl.Bits{}) || ok {
				t.Errorf("TakeSymbol by %v: %d, at %d, %v", lengths, got, b.At, ok)
			}
		}
	}
}

func TestPutSymbolsOfWrongLists(t *testing.T) {
	refused := func(name string, w impl.Out, lengths, list []int) {
		t.Helper()
		if got, ok := impl.PutSymbols(w, lengths, list); ok || got != (impl.Out{}) {
			t.Errorf("%s: %d bits in %d bytes, %v", name, got.Count, len(got.Text), ok)
		}
	}
	lengths, start := []int{2, 1, 0, 3, 3}, impl.Out{Text: "\x05", Count: 3}
	for _, symbol := range []int{-1, 2, 5, 6, math.MinInt, math.MaxInt} {
		refused("no symbol or no code", start, lengths, []int{symbol})
		refused("no symbol or no code at the end", start, lengths, []int{1, 0, 3, symbol})
		refused("no symbol or no code at the beginning", start, lengths, []int{symbol, 1, 0})
	}
	refused("a symbol of no symbols", start, nil, []int{0})
	refused("a symbol of no codes", start, []int{0, 0}, []int{1})
	refused("the other symbol beside a single one", start, []int{0, 1}, []int{1, 0})
	for _, w := range wrongOuts() {
		refused("a wrong Out", w, lengths, []int{1})
		refused("a wrong Out and many symbols", w, lengths, []int{0, 1, 3, 4})
	}
	for _, wrong := range noCodes() {
		refused("lengths without codes", start, wrong, nil)
		refused("lengths without codes and a symbol", start, wrong, []int{0})
		refused("lengths without codes and another symbol", start, wrong, []int{len(wrong) - 1})
	}
}

// With no symbol PutCode is not asked, so that nothing looks at the Out: it comes back as it is.
func TestPutSymbolsOfNone(t *testing.T) {
	outs := append(wrongOuts(), impl.Out{}, impl.Out{Text: "\x05", Count: 3}, impl.Out{Text: strings.Repeat("\xff", impl.MaxBytes), Count: 8 * impl.MaxBytes})
	for _, w := range outs {
		for _, lengths := range [][]int{nil, {0, 0}, {1}, {2, 1, 3, 3}} {
			if got, ok := impl.PutSymbols(w, lengths, nil); !ok || got != w {
				t.Errorf("no symbols behind %d bits by %v: %d bits, %v", w.Count, lengths, got.Count, ok)
			}
		}
	}
}

func TestPutSymbolsUpToMaxBytes(t *testing.T) {
	const end = 8 * impl.MaxBytes
	lengths := stair(15)
	for _, left := range []int{0, 1, 2, 7, 8, 9, 15, 16, 30} {
		w := impl.Out{Text: strings.Repeat("\x00", (end-left+7)/8), Count: end - left}
		for symbol, n := range lengths {
			for times := 1; times <= 3; times++ {
				got, ok := impl.PutSymbols(w, lengths, slices.Repeat([]int{symbol}, times))
				if n*times > left {
					if ok || got != (impl.Out{}) {
						t.Errorf("%d codes of %d bits are put where %d are left", times, n, left)
					}
				} else if !ok || got.Count != w.Count+n*times || !impl.OutOk(got) {
					t.Errorf("%d codes of %d bits are not put where %d are left", times, n, left)
				}
			}
		}
	}
	for _, n := range []int{1, 8, 15} {
		list := slices.Repeat([]int{n - 1}, end/n)
		got, ok := impl.PutSymbols(impl.Out{}, lengths, list)
		if !ok || got.Count != end || len(got.Text) != impl.MaxBytes || !impl.OutOk(got) {
			t.Errorf("%d codes of %d bits: %d bits, %v", len(list), n, got.Count, ok)
		}
		if got, ok := impl.PutSymbols(impl.Out{}, lengths, append(list, 0)); ok || got != (impl.Out{}) {
			t.Errorf("%d codes of %d bits and one more: %d bits, %v", len(list), n, got.Count, ok)
		}
	}
}

func TestCostOf(t *testing.T) {
	for _, c := range []struct {
		lengths, counts []int
		cost            int
		ok              bool
	}{
		{nil, nil, 0, true},
		{[]int{}, nil, 0, true},
		{[]int{0, 0}, []int{0, 0}, 0, true},
		{[]int{2, 1, 3, 3}, []int{1, 5, 0, 2}, 13, true},
		{[]int{2, 1, 3, 3}, []int{0, 0, 0, 0}, 0, true},
		{[]int{0, 1}, []int{0, 7}, 7, true},
		{[]int{2, 0, 2}, []int{3, 0, 4}, 14, true},
		{[]int{1, 1, 1}, []int{1, 2, 3}, 6, true},
		{[]int{15, 1}, []int{impl.MaxBytes, 1}, 15*impl.MaxBytes + 1, true},
		{[]int{15, 1}, []int{impl.MaxBytes + 1, 1}, 0, false},
		{[]int{15, 1}, []int{1, impl.MaxBytes + 1}, 0, false},
		{[]int{15, 1}, []int{-1, 1}, 0, false},
		{[]int{15, 1}, []int{1, -1}, 0, false},
		{[]int{15, 1}, []int{math.MinInt, 1}, 0, false},
		{[]int{15, 1}, []int{math.MaxInt, 1}, 0, false},
		{[]int{0, 1}, []int{1, 7}, 0, false},
		{[]int{0, 1}, []int{-1, 7}, 0, false},
		{[]int{0, 1}, []int{impl.MaxBytes + 1, 7}, 0, false},
		{[]int{1, 1, 0}, []int{3, 7, 1}, 0, false},
		{[]int{0, 0}, []int{0, 1}, 0, false},
		{[]int{1, 1}, []int{3}, 0, false},
		{[]int{1, 1}, []int{3, 7, 0}, 0, false},
		{[]int{1, 1}, nil, 0, false},
		{nil, []int{0}, 0, false},
		{[]int{-1, 1}, []int{0, 1}, 0, false},
		{[]int{16, 1}, []int{0, 1}, 0, false},
		{make([]int, 288), make([]int, 288), 0, true},
		{make([]int, 289), make([]int, 289), 0, false},
		{slices.Repeat([]int{15}, 288), slices.Repeat([]int{impl.MaxBytes}, 288), 288 * 15 * impl.MaxBytes, true},
		{slices.Repeat([]int{15}, 288), slices.Repeat([]int{impl.MaxBytes}, 289), 0, false},
	} {
		if cost, ok := impl.CostOf(c.lengths, c.counts); cost != c.cost || ok != c.ok {
			t.Errorf("CostOf of %v and %v: %d, %v; want %d, %v", c.lengths, c.counts, cost, ok, c.cost, c.ok)
		}
	}
}

func TestCostIsWhatIsPut(t *testing.T) {
	r := rand.New(rand.NewSource(35))
	for _, lengths := range codeLists() {
		list, counts := someSymbols(r, lengths), make([]int, len(lengths))
		for _, symbol := range list {
			counts[symbol]++
		}
		cost, ok := impl.CostOf(lengths, counts)
		if w, right := impl.PutSymbols(impl.Out{}, lengths, list); !ok || !right || w.Count != cost {
			t.Errorf("%v by %v cost %d, %v, and take %d bits, %v", list, lengths, cost, ok, w.Count, right)
		}
	}
}

// spared is a list with spare room behind it, and all of it, so that a write into either is seen.
func spared(list []int) (short, all []int) {
	all = append(slices.Clone(list), 77, 77, 77)
	return all[:len(list)], all
}

func TestCodesLeaveArgumentsAlone(t *testing.T) {
	lengths, room := spared([]int{2, 1, 3, 3})
	list, more := spared([]int{3, 1, 0})
	counts, rest := spared([]int{1, 5, 0, 2})
	codes, _ := impl.CodesOf(lengths)
	impl.CodeKind(lengths)
	impl.TakeSymbol(lengths, impl.Bits{Text: "\x03"})
	impl.PutSymbols(impl.Out{Text: "\x05", Count: 3}, lengths, list)
	impl.CostOf(lengths, counts)
	for i := range codes {
		codes[i] = -9
	}
	if !slices.Equal(room, []int{2, 1, 3, 3, 77, 77, 77}) || !slices.Equal(more, []int{3, 1, 0, 77, 77, 77}) || !slices.Equal(rest, []int{1, 5, 0, 2, 77, 77, 77}) {
		t.Errorf("the arguments became %v, %v, %v", room, more, rest)
	}
	if again, _ := impl.CodesOf(lengths); !slices.Equal(again, []int{2, 0, 6, 7}) {
		t.Errorf("the codes became %v", again)
	}
}
