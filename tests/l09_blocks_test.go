package tests

import (
	"compress/flate"
	"fmt"
	"io"
	"math"
	"math/rand"
	"slices"
	"strings"
	"testing"

	"loop.example/g00099/impl"
)

func TestFixedLengths(t *testing.T) {
	first, second := impl.FixedLengths()
	if !slices.Equal(first, fixedFirst()) || !slices.Equal(second, fixedSecond()) {
		t.Fatalf("%v, %v", first, second)
	}
	first[0], second[0] = 1, 1
	again, other := impl.FixedLengths()
	if !slices.Equal(again, fixedFirst()) || !slices.Equal(other, fixedSecond()) {
		t.Errorf("a second call: %v, %v", again, other)
	}
}

// cutZeros takes what is 0 off the end, as long as more than least are left.
func cutZeros(lengths []int, least int) []int {
	for len(lengths) > least && lengths[len(lengths)-1] == 0 {
		lengths = lengths[:len(lengths)-1]
	}
	return lengths
}

// slowTokenLengths goes by the tables of symbols, of right tokens.
func slowTokenLengths(list []impl.Token) ([]int, []int) {
	firsts, seconds := make([]int, 286), make([]int, 30)
	firsts[256] = 1
	for _, token := range list {
		if token.Len == 0 {
			firsts[token.Lit]++
			continue
		}
		sym, _, _ := slowCode(lengthTable, token.Len)
		firsts[sym]++
		sym, _, _ = slowCode(distTable, token.Dist)
		seconds[sym]++
	}
	return cutZeros(slowLengths(firsts, 15), 257), cutZeros(slowLengths(seconds, 15), 1)
}

// slowThird are the lengths of the third code of these Runs, and how many of them are told.
func slowThird(runs []impl.Run) ([]int, int) {
	counts := make([]int, 19)
	for _, run := range runs {
		counts[run.Sym]++
	}
	third := slowLengths(counts, 7)
	var told []int
	for _, sym := range toldOrder() {
		told = append(told, third[sym])
	}
	return third, len(cutZeros(told, 4))
}

// storedFigures is a block of type 0 behind so many bits.
func storedFigures(ahead int, text string, last bool) string {
	block := blockHead(0, last)
	for (ahead+len(block))%8 != 0 {
		block += "0"
	}
	return block + low(len(text), 16) + low(65535-len(text), 16) + figuresOf(text)
}

func fixedFigures(list []impl.Token, last bool) string {
	return blockHead(1, last) + fixedText(list) + fixedEnd()
}

func wovenFigures(list []impl.Token, last bool) string {
	first, second := slowTokenLengths(list)
	runs := slowRuns(slices.Concat(first, second))
	third, told := slowThird(runs)
	return blockHead(2, last) + sizesText(len(first), len(second), told) + thirdText(third, told) + runsText(third, runs...) +
		pieceText(first, second, list) + symbolText(first, 256)
}

// someOut is a right Out of so many bits.
func someOut(r *rand.Rand, count int) impl.Out {
	bits := make([]int, count)
	for i := range bits {
		bits[i] = r.Intn(2)
	}
	return impl.Out{Text: textOfBits(bits), Count: count}
}

// behind is the Out with the figures behind its own bits.
func behind(w impl.Out, figures string) impl.Out {
	return outOfFigures(figuresOf(w.Text)[:w.Count] + figures)
}

// blockWriter is FixedBlock or WovenBlock, and the same thing told in figures.
type blockWriter struct {
	name    string
	kind    int
	write   func(impl.Out, []impl.Token, bool) (impl.Out, bool)
	figures func([]impl.Token, bool) string
}

func blockWriters() []blockWriter {
	return []blockWriter{
		{"FixedBlock", 1, impl.FixedBlock, fixedFigures},
		{"WovenBlock", 2, impl.WovenBlock, wovenFigures},
	}
}

// checkBlock wants just these figures behind the Out.
func checkBlock(t *testing.T, name string, w impl.Out, figures string, got impl.Out, ok bool) {
	t.Helper()
	if want := behind(w, figures); !ok || got != want || !impl.OutOk(got) {
		t.Fatalf("%s behind %d bits: %.60q, %d bits, %v; want %.60q, %d bits", name, w.Count, got.Text, got.Count, ok, want.Text, want.Count)
	}
}

func checkNoBlock(t *testing.T, name string, got impl.Out, ok bool) {
	t.Helper()
	if ok || got != (impl.Out{}) {
		t.Errorf("%s: %d bytes, %d bits, %v", name, len(got.Text), got.Count, ok)
	}
}

// checkFixedAndWoven wants the list to be written by both as told, last and not last, behind any bits.
func checkFixedAndWoven(t *testing.T, name string, list []impl.Token) {
	t.Helper()
	r := rand.New(rand.NewSource(92))
	for _, b := range blockWriters() {
		for _, last := range []bool{false, true} {
			figures := b.figures(list, last)
			for _, ahead := range []int{0, 1, 8, 8*r.Intn(20) + 3, 8*r.Intn(20) + 7} {
				w := someOut(r, ahead)
				got, ok := b.write(w, list, last)
				checkBlock(t, fmt.Sprintf("%s of %s, last %v", b.name, name, last), w, figures, got, ok)
			}
		}
	}
}

// tokenRow is a list of tokens by its name.
type tokenRow struct {
	name string
	list []impl.Token
}

func everyByte() []impl.Token {
	list := make([]impl.Token, 256)
	for i := range list {
		list[i].Lit = i
	}
	return list
}

// everyRepeat has each symbol of lengths with each symbol of distances at least once.
func everyRepeat() []impl.Token {
	var list []impl.Token
	for i, row := range lengthTable {
		for j, other := range distTable {
			length := row.least + (i+j)%(1<<row.bits)
			list = append(list, repeatOf(length, other.least+(i*37+j)%(1<<other.bits)))
		}
	}
	return list
}

// steepBytes come so often that their codes, with that of 256, want to be as long as there can be.
func steepBytes(size int) []impl.Token {
	var list []impl.Token
	for i, count := range fibonacci(size + 1)[1:] {
		list = append(list, slices.Repeat([]impl.Token{{Lit: 60 + i}}, count)...)
	}
	return list
}

// crossing has codes whose lengths are alike at the end of the first and at the beginning of the second.
func crossing() []impl.Token { return []impl.Token{repeatOf(3, 1), repeatOf(4, 2), repeatOf(5, 3)} }

// tokenRows are right tokens; their distances may be more than there is.
func tokenRows() []tokenRow {
	return []tokenRow{
		{"no token", nil},
		{"one byte", bytesOf("a")},
		{"the byte 0", bytesOf("\x00")},
		{"the byte 143", bytesOf("\x8f")},
		{"the byte 144", bytesOf("\x90")},
		{"the byte 255", bytesOf("\xff")},
		{"bytes from 144 on", everyByte()[144:]},
		{"every byte", everyByte()},
		{"every byte but one", everyByte()[1:]},
		{"one repeat", []impl.Token{repeatOf(3, 1)}},
		{"the greatest repeat", []impl.Token{repeatOf(258, 32768)}},
		{"lengths of 257 and 258", []impl.Token{repeatOf(257, 1), repeatOf(258, 1), repeatOf(257, 32768), repeatOf(258, 32768)}},
		{"distances at the ends", []impl.Token{repeatOf(10, 1), repeatOf(11, 32768), repeatOf(12, 24577), repeatOf(13, 24576)}},
		{"one distance", tokensOf("abc", repeatOf(3, 3), repeatOf(9, 3), "x", repeatOf(258, 3))},
		{"one distance, far", tokensOf("abc", repeatOf(3, 32768), repeatOf(9, 32768))},
		{"every repeat", everyRepeat()},
		{"everything", slices.Concat(everyByte(), everyRepeat(), everyByte())},
		{"steep bytes", steepBytes(15)},
		{"steeper bytes", steepBytes(18)},
		{"crossing", crossing()},
	}
}

func checkTokenLengths(t *testing.T, name string, list []impl.Token) ([]int, []int) {
	t.Helper()
	first, second, ok := impl.TokenLengths(list)
	wantFirst, wantSecond := slowTokenLengths(list)
	if !ok || !slices.Equal(first, wantFirst) || !slices.Equal(second, wantSecond) {
		t.Fatalf("%s: %v, %v, %v; want %v, %v", name, first, second, ok, wantFirst, wantSecond)
	}
	return first, second
}

func checkNoTokenLengths(t *testing.T, name string, list []impl.Token) {
	t.Helper()
	if first, second, ok := impl.TokenLengths(list); ok || len(first) != 0 || len(second) != 0 {
		t.Errorf("%s: %v, %v, %v", name, first, second, ok)
	}
}

func TestTokenLengthsOfManyLists(t *testing.T) {
	for _, row := range tokenRows() {
		checkTokenLengths(t, row.name, row.list)
	}
	r := rand.New(rand.NewSource(93))
	for range 500 {
		checkTokenLengths(t, "some tokens", someTokens(r, r.Intn(40), r.Intn(300)))
	}
}

func TestTokenLengths(t *testing.T) {
	for _, c := range []struct {
		name          string
		list          []impl.Token
		first, second []int
	}{
		{"no token", nil, lengthsWith(257, 256, 1), []int{0}},
		{"no token of an empty list", []impl.Token{}, lengthsWith(257, 256, 1), []int{0}},
		{"one byte", bytesOf("a"), lengthsWith(257, 97, 1, 256, 1), []int{0}},
		{"one byte often", bytesOf("aaaaaaaa"), lengthsWith(257, 97, 1, 256, 1), []int{0}},
		{"the last byte", bytesOf("\xff"), lengthsWith(257, 255, 1, 256, 1), []int{0}},
		{"two bytes", bytesOf("aab"), lengthsWith(257, 97, 1, 98, 2, 256, 2), []int{0}},
		{"one repeat", []impl.Token{repeatOf(3, 1)}, lengthsWith(258, 256, 1, 257, 1), []int{1}},
		{"one repeat farther", []impl.Token{repeatOf(4, 4)}, lengthsWith(259, 256, 1, 258, 1), []int{0, 0, 0, 1}},
		{"the greatest repeat", []impl.Token{repeatOf(258, 32768)}, lengthsWith(286, 256, 1, 285, 1), lengthsWith(30, 29, 1)},
		{"a second code of one symbol, often", tokensOf("a", repeatOf(3, 5), repeatOf(3, 6), repeatOf(3, 5)), lengthsWith(258, 97, 2, 256, 2, 257, 1), lengthsWith(5, 4, 1)},
		{"two distances", []impl.Token{repeatOf(3, 1), repeatOf(3, 2)}, lengthsWith(258, 256, 1, 257, 1), []int{1, 1}},
		{"codes alike", crossing(), lengthsWith(260, 256, 2, 257, 2, 258, 2, 259, 2), []int{2, 2, 1}},
	} {
		first, second := checkTokenLengths(t, c.name, c.list)
		if !slices.Equal(first, c.first) || !slices.Equal(second, c.second) {
			t.Errorf("%s: %v, %v; want %v, %v", c.name, first, second, c.first, c.second)
		}
	}
}

func TestTokenLengthsOfAllSymbols(t *testing.T) {
	first, second := checkTokenLengths(t, "everything", slices.Concat(everyByte(), everyRepeat()))
	if len(first) != 286 || slices.Contains(first, 0) || len(second) != 30 || slices.Contains(second, 0) {
		t.Errorf("%v, %v", first, second)
	}
	if impl.CodeKind(first) != impl.CodeWhole || impl.CodeKind(second) != impl.CodeWhole {
		t.Errorf("codes that are not whole: %v, %v", first, second)
	}
	first, _ = checkTokenLengths(t, "steep bytes", steepBytes(18))
	if slices.Max(first) != 15 {
		t.Errorf("no length of 15: %v", first)
	}
}

// The lengths end with the greatest symbol that comes, whatever comes below it.
func TestTokenLengthsEnd(t *testing.T) {
	for _, row := range lengthTable {
		for _, other := range distTable {
			for _, list := range [][]impl.Token{
				{repeatOf(row.least, other.least)},
				tokensOf("\xff", repeatOf(row.least, other.least), "\x00"),
				tokensOf(repeatOf(3, 1), "a", repeatOf(row.least, other.least), repeatOf(3, 1)),
			} {
				first, second := checkTokenLengths(t, fmt.Sprint(list), list)
				if len(first) != row.sym+1 || first[row.sym] == 0 || len(second) != other.sym+1 || second[other.sym] == 0 {
					t.Fatalf("%v: %d and %d lengths", list, len(first), len(second))
				}
			}
		}
	}
	for i := range 256 {
		first, second := checkTokenLengths(t, "a byte", []impl.Token{{Lit: i}})
		if len(first) != 257 || first[i] != 1 || first[256] != 1 || !slices.Equal(second, []int{0}) {
			t.Errorf("the byte %d: %v, %v", i, first, second)
		}
	}
}

// It is the tokens that are counted: with 256 there is one symbol more.
func TestTokenLengthsOfMaxBytes(t *testing.T) {
	r := rand.New(rand.NewSource(94))
	for _, list := range [][]impl.Token{
		slices.Repeat(bytesOf("a"), impl.MaxBytes),
		slices.Repeat([]impl.Token{repeatOf(258, 1)}, impl.MaxBytes),
		slices.Repeat([]impl.Token{{Lit: 97}, repeatOf(3, 2)}, impl.MaxBytes/2),
		someTokens(r, 5, impl.MaxBytes),
	} {
		name := fmt.Sprintf("MaxBytes tokens, the first %v", list[0])
		checkTokenLengths(t, name, list)
		checkTokenLengths(t, name+", one less", list[1:])
		checkNoTokenLengths(t, name+", a byte more", append(slices.Clone(list), impl.Token{Lit: 98}))
		checkNoTokenLengths(t, name+", a repeat more", append(slices.Clone(list), repeatOf(3, 1)))
		checkNoTokenLengths(t, name+", as many more", slices.Concat(list, list))
	}
}

func TestTokenLengthsOfWrongTokens(t *testing.T) {
	r := rand.New(rand.NewSource(95))
	for _, wrong := range wrongTokens() {
		checkNoTokenLengths(t, fmt.Sprint(wrong), []impl.Token{wrong})
		right := someTokens(r, 5, 20)
		for at := range len(right) + 1 {
			checkNoTokenLengths(t, fmt.Sprintf("%v at %d", wrong, at), slices.Insert(slices.Clone(right), at, wrong))
		}
	}
}

func checkStored(t *testing.T, w impl.Out, text string) {
	t.Helper()
	for _, last := range []bool{false, true} {
		got, ok := impl.StoredBlock(w, text, last)
		checkBlock(t, fmt.Sprintf("%d bytes, last %v", len(text), last), w, storedFigures(w.Count, text, last), got, ok)
	}
}

func TestStoredBlock(t *testing.T) {
	r := rand.New(rand.NewSource(96))
	texts := []string{"", "a", "\x00", "\xff\xff", "abc", randomText(r, 255), randomText(r, 256), randomText(r, 257), randomText(r, impl.MaxData-1), randomText(r, impl.MaxData)}
	for _, text := range texts {
		for bits := range 17 {
			checkStored(t, someOut(r, bits), text)
		}
		checkStored(t, someOut(r, 8*3000+r.Intn(8)), text)
	}
	for _, c := range []struct {
		ahead impl.Out
		text  string
		last  bool
		want  string
	}{
		{impl.Out{}, "", true, "\x01\x00\x00\xff\xff"},
		{impl.Out{}, "", false, "\x00\x00\x00\xff\xff"},
		{impl.Out{}, "abc", true, "\x01\x03\x00\xfc\xffabc"},
		{impl.Out{Text: "\x1f", Count: 5}, "abc", true, "\x3f\x03\x00\xfc\xffabc"},
		{impl.Out{Text: "\x3f", Count: 6}, "abc", true, "\x7f\x00\x03\x00\xfc\xffabc"},
		{impl.Out{Text: "\x7f", Count: 7}, "abc", true, "\xff\x00\x03\x00\xfc\xffabc"},
		{impl.Out{Text: "\xff", Count: 8}, "abc", true, "\xff\x01\x03\x00\xfc\xffabc"},
		{impl.Out{}, strings.Repeat("x", 2600), false, "\x00\x28\x0a\xd7\xf5" + strings.Repeat("x", 2600)},
	} {
		got, ok := impl.StoredBlock(c.ahead, c.text, c.last)
		if !ok || got != (impl.Out{Text: c.want, Count: 8 * len(c.want)}) {
			t.Errorf("%.10q behind %v: %.40q, %d, %v", c.text, c.ahead, got.Text, got.Count, ok)
		}
	}
}

func TestStoredBlockRefuses(t *testing.T) {
	for _, size := range []int{impl.MaxData + 1, impl.MaxData + 2, impl.MaxBytes, 1 << 16, 1<<16 + 3} {
		for _, w := range []impl.Out{{}, {Text: "\x1f", Count: 5}} {
			got, ok := impl.StoredBlock(w, strings.Repeat("x", size), true)
			checkNoBlock(t, fmt.Sprintf("%d bytes", size), got, ok)
		}
	}
	for _, w := range wrongOuts() {
		for _, text := range []string{"", "abc"} {
			got, ok := impl.StoredBlock(w, text, true)
			checkNoBlock(t, fmt.Sprintf("a wrong Out of %d bits and %d bytes", w.Count, len(w.Text)), got, ok)
		}
	}
}

func TestStoredBlockUpToMaxBytes(t *testing.T) {
	r := rand.New(rand.NewSource(97))
	for _, size := range []int{0, 1, 100, impl.MaxData} {
		text := randomText(r, size)
		// With the three bits in the last byte of the Out, or in one more.
		bytes := impl.MaxBytes - 4 - size
		for back := range 20 {
			w := someOut(r, 8*bytes-back)
			if back >= 3 {
				checkStored(t, w, text)
				continue
			}
			for _, last := range []bool{false, true} {
				got, ok := impl.StoredBlock(w, text, last)
				checkNoBlock(t, fmt.Sprintf("%d bytes behind %d bits", size, w.Count), got, ok)
			}
		}
		for _, more := range []int{1, 5, 8, 31, 32} {
			got, ok := impl.StoredBlock(someOut(r, 8*bytes+more), text, true)
			checkNoBlock(t, fmt.Sprintf("%d bytes, no room by %d bits", size, more), got, ok)
		}
	}
	got, ok := impl.StoredBlock(someOut(r, 8*impl.MaxBytes), "", true)
	checkNoBlock(t, "no room at all", got, ok)
}

func TestFixedAndWovenBlocks(t *testing.T) {
	for _, row := range tokenRows() {
		checkFixedAndWoven(t, row.name, row.list)
	}
	r := rand.New(rand.NewSource(98))
	for range 300 {
		checkFixedAndWoven(t, "some tokens", someTokens(r, r.Intn(3000), r.Intn(80)))
	}
	for _, text := range smallTexts(99, 60, 400) {
		for _, s := range searchers() {
			list, _ := s.tokens(text, 8)
			checkFixedAndWoven(t, s.name, list)
		}
	}
}

func TestFixedBlock(t *testing.T) {
	for _, c := range []struct {
		name    string
		list    []impl.Token
		figures string
	}{
		{"no token", nil, "0000000"},
		{"one byte", bytesOf("a"), "10010001" + "0000000"},
		{"the bytes at the edges", bytesOf("\x00\x8f\x90\xff"), "00110000" + "10111111" + "110010000" + "111111111" + "0000000"},
		{"the least repeat", []impl.Token{repeatOf(3, 1)}, "0000001" + "00000" + "0000000"},
		{"a length of 257", []impl.Token{repeatOf(257, 5)}, "11000100" + "01111" + "00100" + "0" + "0000000"},
		{"a length of 258", []impl.Token{repeatOf(258, 6)}, "11000101" + "00100" + "1" + "0000000"},
		{"a distance of MaxDist", []impl.Token{repeatOf(114, 32768)}, "0010111" + "1111" + "11101" + "1111111111111" + "0000000"},
		{"a length of 115", []impl.Token{repeatOf(115, 32767)}, "11000000" + "0000" + "11101" + "0111111111111" + "0000000"},
	} {
		for _, last := range []bool{false, true} {
			got, ok := impl.FixedBlock(impl.Out{}, c.list, last)
			checkBlock(t, c.name, impl.Out{}, blockHead(1, last)+c.figures, got, ok)
		}
	}
}

// Written out by hand.
func TestWovenBlock(t *testing.T) {
	for _, c := range []struct {
		name    string
		list    []impl.Token
		figures string
	}{
		// Runs: 18 for 138, 18 for 118, 1, 0; 18 has the length 1, 0 and 1 have 2.
		{"no token", nil, low(0, 5) + low(0, 5) + low(14, 4) +
			low(0, 6) + low(1, 3) + low(2, 3) + low(0, 39) + low(2, 3) +
			"0" + low(127, 7) + "0" + low(107, 7) + "11" + "10" + "0"},
		// Runs: 18 for 138, 18 for 118, 1, 1, 1; both have the length 1.
		{"one repeat", []impl.Token{repeatOf(3, 1)}, low(1, 5) + low(0, 5) + low(14, 4) +
			low(0, 6) + low(1, 3) + low(0, 42) + low(1, 3) +
			"1" + low(127, 7) + "1" + low(107, 7) + "000" + "1" + "0" + "0"},
	} {
		for _, last := range []bool{false, true} {
			got, ok := impl.WovenBlock(impl.Out{}, c.list, last)
			checkBlock(t, c.name, impl.Out{}, blockHead(2, last)+c.figures, got, ok)
		}
	}
}

// toldIn is how many lengths of the third code a block of type 2 tells, which stands alone.
func toldIn(block impl.Out) int {
	told, _, _ := impl.TakeBits(impl.Bits{Text: block.Text, At: 13}, 4)
	return told + 4
}

// symsOf are the Syms of the Runs of a list of tokens.
func symsOf(list []impl.Token) []int {
	first, second := slowTokenLengths(list)
	set := map[int]bool{}
	for _, run := range slowRuns(slices.Concat(first, second)) {
		set[run.Sym] = true
	}
	return sortedKeys(set)
}

func TestWovenBlockThirdCodes(t *testing.T) {
	for _, c := range []struct {
		name string
		list []impl.Token
		syms []int
		told int
	}{
		{"all are told", steepBytes(15), []int{0, 1, 2, 3, 4, 5, 6, 7, 8, 9, 10, 11, 12, 13, 14, 15, 18}, 19},
		{"all but 15", bytesOf("a"), []int{0, 1, 18}, 18},
		{"two Syms", []impl.Token{repeatOf(3, 1)}, []int{1, 18}, 18},
		{"Runs of the same length alone, but one", everyByte()[1:], []int{0, 8, 16}, 5},
		{"the same, and the 0 at the end", everyByte()[:255], []int{0, 8, 16}, 5},
		{"many lengths 0", everyByte()[:127], []int{0, 7, 16, 18}, 6},
	} {
		if syms := symsOf(c.list); !slices.Equal(syms, c.syms) {
			t.Errorf("%s: Syms %v; want %v", c.name, syms, c.syms)
		}
		block, ok := impl.WovenBlock(impl.Out{}, c.list, true)
		checkBlock(t, c.name, impl.Out{}, wovenFigures(c.list, true), block, ok)
		if told := toldIn(block); told != c.told {
			t.Errorf("%s: %d are told; want %d", c.name, told, c.told)
		}
	}
}

// Runs of one Sym alone, and a third code of which only 4 lengths are told, have no tokens: 256 has a length that is
// not 0, and there are 258 lengths at least, which one Sym of 1 .. 15 alone would not tell. So all are more than that.
func TestWovenBlockHasTwoSymsAtLeast(t *testing.T) {
	r := rand.New(rand.NewSource(100))
	lists := [][]impl.Token{}
	for _, row := range tokenRows() {
		lists = append(lists, row.list)
	}
	for size := range 257 {
		lists = append(lists, everyByte()[:size], everyByte()[size:])
	}
	for range 300 {
		lists = append(lists, someTokens(r, 1, r.Intn(30)))
	}
	least, fewest := math.MaxInt, math.MaxInt
	for _, list := range lists {
		block, ok := impl.WovenBlock(impl.Out{}, list, true)
		if told := toldIn(block); !ok || told < 5 || told > 19 {
			t.Fatalf("%v: %d are told, %v", list, told, ok)
		}
		least, fewest = min(least, toldIn(block)), min(fewest, len(symsOf(list)))
	}
	if least != 5 || fewest != 2 {
		t.Errorf("%d are told at least, of %d Syms at least", least, fewest)
	}
}

// The Run 16 that begins behind 256 goes on into the second code.
func TestWovenBlockRunsFromTheFirstCodeToTheSecond(t *testing.T) {
	list := crossing()
	first, second := checkTokenLengths(t, "crossing", list)
	runs, _ := impl.RunsOf(slices.Concat(first, second))
	want := []impl.Run{{Sym: 18, Extra: 127}, {Sym: 18, Extra: 107}, {Sym: 2}, {Sym: 16, Extra: 2}, {Sym: 1}}
	if !slices.Equal(runs, want) {
		t.Fatalf("Runs %v", runs)
	}
	// Syms 18, 2, 16 and 1 come 2, 1, 1 and 1 times: all have two bits, 1, 2, 16 and 18 in order.
	third := lengthsWith(19, 1, 2, 2, 2, 16, 2, 18, 2)
	figures := blockHead(2, true) + sizesText(260, 3, 18) + thirdText(third, 18) +
		"11" + low(127, 7) + "11" + low(107, 7) + "01" + "10" + low(2, 2) + "00" +
		"01" + "10" + "10" + "11" + "11" + "0" + "00"
	got, ok := impl.WovenBlock(impl.Out{}, list, true)
	checkBlock(t, "crossing", impl.Out{}, figures, got, ok)
	p := &packer{}
	p.stored(rand.New(rand.NewSource(1)), "abc", false)
	w, _ := impl.StoredBlock(impl.Out{}, "abc", false)
	w, ok = impl.WovenBlock(w, list, true)
	if p.grow(list); !ok {
		t.Fatal("crossing behind three bytes")
	}
	checkMade(t, "crossing behind three bytes", w.Text, impl.MaxBytes, p.made, []int{0, 2})
}

func TestFixedAndWovenBlocksRefuse(t *testing.T) {
	r := rand.New(rand.NewSource(101))
	for _, b := range blockWriters() {
		for _, w := range wrongOuts() {
			for _, list := range [][]impl.Token{nil, bytesOf("abc"), crossing()} {
				got, ok := b.write(w, list, true)
				checkNoBlock(t, fmt.Sprintf("%s: a wrong Out of %d bits and %d bytes", b.name, w.Count, len(w.Text)), got, ok)
			}
		}
		for _, wrong := range wrongTokens() {
			right := someTokens(r, 5, 20)
			for _, at := range []int{0, 1, 10, len(right)} {
				got, ok := b.write(impl.Out{}, slices.Insert(slices.Clone(right), at, wrong), true)
				checkNoBlock(t, fmt.Sprintf("%s: %v at %d", b.name, wrong, at), got, ok)
			}
			got, ok := b.write(impl.Out{}, []impl.Token{wrong}, false)
			checkNoBlock(t, fmt.Sprintf("%s: %v alone", b.name, wrong), got, ok)
		}
		for _, size := range []int{impl.MaxBytes + 1, 300000} {
			got, ok := b.write(impl.Out{}, bytesOf(strings.Repeat("ab", size)[:size]), true)
			checkNoBlock(t, fmt.Sprintf("%s: %d tokens", b.name, size), got, ok)
		}
	}
}

func TestFixedAndWovenBlocksUpToMaxBytes(t *testing.T) {
	r := rand.New(rand.NewSource(102))
	rows := append(tokenRows(), tokenRow{"some tokens", someTokens(r, 5, 400)}, tokenRow{"many bytes", bytesOf(randomText(r, 9000))})
	for _, row := range rows {
		for _, b := range blockWriters() {
			figures := b.figures(row.list, true)
			for _, less := range []int{9, 8, 7, 1, 0} {
				w := someOut(r, 8*impl.MaxBytes-len(figures)-less)
				got, ok := b.write(w, row.list, true)
				checkBlock(t, b.name+" of "+row.name, w, figures, got, ok)
			}
			for _, more := range []int{1, 2, 7, 8, 9, len(figures)} {
				got, ok := b.write(someOut(r, 8*impl.MaxBytes-len(figures)+more), row.list, true)
				checkNoBlock(t, fmt.Sprintf("%s of %s, no room by %d bits", b.name, row.name, more), got, ok)
			}
		}
	}
	// The greatest blocks that there are.
	most := bytesOf(strings.Repeat("a", impl.MaxBytes-2))
	got, ok := impl.FixedBlock(impl.Out{}, most, true)
	checkBlock(t, "MaxBytes - 2 bytes", impl.Out{}, fixedFigures(most, true), got, ok)
	got, ok = impl.FixedBlock(impl.Out{}, append(most, impl.Token{Lit: 97}), true)
	checkNoBlock(t, "MaxBytes - 1 bytes", got, ok)
	most = bytesOf(strings.Repeat("a", impl.MaxBytes))
	got, ok = impl.WovenBlock(impl.Out{}, most, true)
	checkBlock(t, "MaxBytes bytes alike", impl.Out{}, wovenFigures(most, true), got, ok)
	checkMade(t, "MaxBytes bytes alike", got.Text, impl.MaxBytes, strings.Repeat("a", impl.MaxBytes), []int{2})
}

// scroll writes blocks behind one another by the program, and what they are to make by Expand.
type scroll struct {
	t     *testing.T
	out   impl.Out
	made  string
	types []int
}

func (s *scroll) note(kind int, w impl.Out, ok bool, more string) {
	s.t.Helper()
	if !ok || !impl.OutOk(w) || w.Count <= s.out.Count {
		s.t.Fatalf("behind %v, %d bits: type %d, %d bits, %v", s.types, s.out.Count, kind, w.Count, ok)
	}
	s.out, s.made, s.types = w, s.made+more, append(s.types, kind)
}

func (s *scroll) expand(list []impl.Token) string {
	s.t.Helper()
	more, ok := impl.Expand(s.made, list)
	if !ok {
		s.t.Fatalf("behind %d bytes: %v", len(s.made), list)
	}
	return more
}

// put writes the tokens as a block of this type; type 0 tells just the bytes that they make.
func (s *scroll) put(kind int, list []impl.Token, last bool) {
	s.t.Helper()
	more := s.expand(list)
	w, ok := impl.StoredBlock(s.out, more, last)
	switch kind {
	case 1:
		w, ok = impl.FixedBlock(s.out, list, last)
	case 2:
		w, ok = impl.WovenBlock(s.out, list, last)
	}
	s.note(kind, w, ok, more)
}

// best writes by BestBlock, whose type is seen by what it wrote.
func (s *scroll) best(list []impl.Token, last bool) {
	s.t.Helper()
	more := s.expand(list)
	w, ok := impl.BestBlock(s.out, more, list, last)
	kind := s.out.Count
	if ok {
		kind, _, _ = impl.TakeBits(impl.Bits{Text: w.Text, At: s.out.Count + 1}, 2)
	}
	s.note(kind, w, ok, more)
}

// check wants all to be read again, by the program and by another reader.
func (s *scroll) check() {
	s.t.Helper()
	checkMade(s.t, fmt.Sprintf("types %v", s.types), s.out.Text, impl.MaxBytes, s.made, s.types)
	other, err := io.ReadAll(flate.NewReader(strings.NewReader(s.out.Text)))
	if err != nil || string(other) != s.made {
		s.t.Errorf("types %v: another reader has %.40q, %v; want %.40q", s.types, other, err, s.made)
	}
	if s.t.Failed() {
		s.t.FailNow()
	}
}

func TestP8OneBlock(t *testing.T) {
	r := rand.New(rand.NewSource(103))
	lists := [][]impl.Token{nil, bytesOf("a"), tokensOf("a", repeatOf(3, 1)), everyByte(), everyByte()[1:], everyByte()[:255], steepBytes(15), tokensOf("a", repeatOf(257, 1), repeatOf(258, 1)), tokensOf("abc", crossing()[0], crossing()[1], crossing()[2])}
	for _, size := range []int{2, 3, 5, 10, 30, 100} {
		for range 20 {
			lists = append(lists, someTokens(r, 0, size))
		}
	}
	for _, text := range matchTexts() {
		for _, s := range searchers() {
			list, _ := s.tokens(text, 16)
			lists = append(lists, list)
		}
	}
	for _, list := range lists {
		for kind := range 4 {
			s := &scroll{t: t}
			if kind == 3 {
				s.best(list, true)
			} else if text, _ := impl.Expand("", list); kind > 0 || len(text) <= impl.MaxData {
				s.put(kind, list, true)
			} else {
				continue
			}
			s.check()
		}
	}
}

// Each block's tokens reach into what the earlier ones made.
func TestP8SeveralBlocks(t *testing.T) {
	r := rand.New(rand.NewSource(104))
	for i := range 81 {
		kinds := []int{i % 3, i / 3 % 3, i / 9 % 3, i / 27}
		for _, size := range []int{0, 1, 4, 15} {
			s := &scroll{t: t}
			for j, kind := range kinds {
				s.put(kind, someTokens(r, len(s.made), size), j == len(kinds)-1)
			}
			s.check()
		}
	}
	for range 400 {
		s := &scroll{t: t}
		for count := 1 + r.Intn(12); count > 0; count-- {
			list := someTokens(r, len(s.made), r.Intn(20))
			if kind := r.Intn(4); kind < 3 {
				s.put(kind, list, count == 1)
			} else {
				s.best(list, count == 1)
			}
		}
		s.check()
	}
}

// A block of repeats alone, of every type of block behind every type, as far back as it can reach.
func TestP8RepeatsReachBack(t *testing.T) {
	for i := range 27 {
		s := &scroll{t: t}
		s.put(i%3, bytesOf("abcdefg"), false)
		s.put(i/3%3, []impl.Token{repeatOf(3, 7), repeatOf(9, 10), repeatOf(258, 1)}, false)
		s.put(i/9, []impl.Token{repeatOf(7, len(s.made)), repeatOf(258, len(s.made)-1)}, true)
		if s.made[:19] != "abcdefgabcabcdefgab" || s.made[277:284] != "abcdefg" {
			t.Fatalf("%q", s.made)
		}
		s.check()
	}
	r := rand.New(rand.NewSource(105))
	for kind := 1; kind <= 2; kind++ {
		s := &scroll{t: t}
		for range 4 {
			s.put(0, bytesOf(randomText(r, impl.MaxData)), false)
		}
		s.put(kind, []impl.Token{repeatOf(258, len(s.made)), repeatOf(257, len(s.made)), repeatOf(3, 4*impl.MaxData)}, true)
		s.check()
	}
}

// bestFigures is what BestBlock is to write: the fewest figures, of equally many the first of these.
func bestFigures(blocks ...string) string {
	best := ""
	for _, block := range blocks {
		if block != "" && (best == "" || len(block) < len(best)) {
			best = block
		}
	}
	return best
}

func checkBestBlock(t *testing.T, name string, w impl.Out, text string, list []impl.Token, kind int) {
	t.Helper()
	for _, last := range []bool{false, true} {
		blocks := []string{storedFigures(w.Count, text, last), fixedFigures(list, last), wovenFigures(list, last)}
		best := bestFigures(blocks...)
		if best != blocks[kind] {
			t.Fatalf("%s: %d, %d and %d bits", name, len(blocks[0]), len(blocks[1]), len(blocks[2]))
		}
		got, ok := impl.BestBlock(w, text, list, last)
		checkBlock(t, fmt.Sprintf("%s, last %v", name, last), w, best, got, ok)
	}
}

// aheadOf is how many bits stand ahead, and of how many bytes a block of type 0 is, where it has so many bits.
func aheadOf(bits int) (int, int) {
	for ahead := range 8 {
		size := (bits - len(storedFigures(ahead, "", true))) / 8
		if (ahead+bits)%8 == 0 && size >= 0 {
			return ahead, size
		}
	}
	panic("too few bits")
}

func TestBestBlock(t *testing.T) {
	r := rand.New(rand.NewSource(106))
	long := randomText(r, impl.MaxData)
	for _, c := range []struct {
		name string
		text string
		list []impl.Token
		kind int
	}{
		{"bytes of every kind", long, bytesOf(long), 0},
		{"bytes from 144 on", long[:40], bytesOf(plainText(r, 40, 144, 256)), 0},
		{"an empty text, and some bytes", "", bytesOf("abcdefghi"), 0},
		{"nothing", "", nil, 1},
		{"a byte", "a", bytesOf("a"), 1},
		{"a short text", "some text", bytesOf("some text"), 1},
		{"a repeat", strings.Repeat("a", 259), tokensOf("a", repeatOf(258, 1)), 1},
		{"bytes alike", strings.Repeat("a", 300), bytesOf(strings.Repeat("a", 300)), 2},
		{"four bytes", strings.Repeat("abcd", 300), bytesOf(strings.Repeat("abcd", 300)), 2},
		{"tokens of another text", long, bytesOf(strings.Repeat("abcd", 300)), 2},
		{"a text of other tokens", "abc", bytesOf(long), 0},
	} {
		for ahead := range 10 {
			checkBestBlock(t, c.name, someOut(r, ahead), c.text, c.list, c.kind)
		}
	}
}

func TestBestBlockOfEqualOnes(t *testing.T) {
	r := rand.New(rand.NewSource(107))
	even := bytesOf("abcabcabcabcabc")
	short, many := bytesOf("some text"), bytesOf(strings.Repeat("abc", 40))
	for _, c := range []struct {
		name string
		list []impl.Token
		with int
		// Which one it is with as many bytes, with one less, and with one more.
		kinds [3]int
	}{
		{"all three", even, 1, [3]int{0, 0, 1}},
		{"type 0 and type 1", short, 1, [3]int{0, 0, 1}},
		{"type 0 and type 2", many, 2, [3]int{0, 0, 2}},
	} {
		bits := []int{0, len(fixedFigures(c.list, true)), len(wovenFigures(c.list, true))}
		if (bits[1] == bits[2]) != (c.name == "all three") {
			t.Fatalf("%s: %v", c.name, bits)
		}
		ahead, size := aheadOf(bits[c.with])
		for i, more := range []int{0, -1, 1} {
			text := randomText(r, size+more)
			if stored := len(storedFigures(ahead, text, true)); stored != bits[c.with]+8*more {
				t.Fatalf("%s: %d bits of type 0, %v", c.name, stored, bits)
			}
			checkBestBlock(t, c.name, someOut(r, ahead), text, c.list, c.kinds[i])
			checkBestBlock(t, c.name, someOut(r, 800+ahead), text, c.list, c.kinds[i])
		}
	}
	checkBestBlock(t, "type 1 and type 2", impl.Out{}, randomText(r, 100), even, 1)
}

func TestBestBlockOfManyLists(t *testing.T) {
	r := rand.New(rand.NewSource(108))
	seen := [3]int{}
	for range 1500 {
		kinds := 1 + r.Intn(256)
		text := make([]byte, r.Intn(120))
		for i := range text {
			text[i] = byte(255 - r.Intn(kinds))
		}
		list, w := bytesOf(string(text)), someOut(r, r.Intn(40))
		if r.Intn(2) == 0 {
			list, _ = impl.Lazy(string(text), 16)
		}
		blocks := []string{storedFigures(w.Count, string(text), true), fixedFigures(list, true), wovenFigures(list, true)}
		kind := slices.Index(blocks, bestFigures(blocks...))
		seen[kind]++
		checkBestBlock(t, "some bytes", w, string(text), list, kind)
	}
	if slices.Min(seen[:]) < 50 {
		t.Errorf("seen %v", seen)
	}
}

// What is false is left out, even where it would have the fewest bits.
func TestBestBlockOfSomeThatAreFalse(t *testing.T) {
	r := rand.New(rand.NewSource(109))
	long := randomText(r, impl.MaxData+1)
	wrong := tokensOf("abc", impl.Token{Lit: 256})
	alike := bytesOf(strings.Repeat("a", 2000))
	same := bytesOf(strings.Repeat("a", impl.MaxBytes))
	most := bytesOf(long[:impl.MaxData])
	full := func(figures string) impl.Out { return someOut(r, 8*impl.MaxBytes-len(figures)) }
	for _, c := range []struct {
		name    string
		w       impl.Out
		text    string
		list    []impl.Token
		figures func(ahead int, last bool) string
	}{
		{"no type 0, of too long a text", impl.Out{}, long, bytesOf("abc"), func(_ int, last bool) string { return fixedFigures(bytesOf("abc"), last) }},
		{"no type 0, of too long a text, and type 1 is worse", impl.Out{}, long, alike, func(_ int, last bool) string { return wovenFigures(alike, last) }},
		{"type 0 would do, were it not too long", someOut(r, 5), long, most, func(_ int, last bool) string { return bestFigures(fixedFigures(most, last), wovenFigures(most, last)) }},
		{"no type 1 and 2, of a wrong token", someOut(r, 3), long[1:], wrong, func(ahead int, last bool) string { return storedFigures(ahead, long[1:], last) }},
		{"no type 1 and 2, of a wrong token, and an empty text", someOut(r, 6), "", wrong, func(ahead int, last bool) string { return storedFigures(ahead, "", last) }},
		{"no type 1 and 2, of too many tokens", someOut(r, 3), "abc", append(same, same...), func(ahead int, last bool) string { return storedFigures(ahead, "abc", last) }},
		{"no type 1, for want of room", impl.Out{}, long[:2000], same, func(_ int, last bool) string { return wovenFigures(same, last) }},
		{"no type 0 and 1, for want of room", full(wovenFigures(alike, true)), long[1:], alike, func(_ int, last bool) string { return wovenFigures(alike, last) }},
		{"no type 0 and 1, of too long a text and for want of room", impl.Out{}, long, same, func(_ int, last bool) string { return wovenFigures(same, last) }},
		{"no type 0 and 2, for want of room", full(fixedFigures(bytesOf("a"), true)), "abcd", bytesOf("a"), func(_ int, last bool) string { return fixedFigures(bytesOf("a"), last) }},
		{"no type 1 and 2, for want of room", full(storedFigures(0, "abc", true)), "abc", most, func(ahead int, last bool) string { return storedFigures(ahead, "abc", last) }},
	} {
		for _, last := range []bool{false, true} {
			got, ok := impl.BestBlock(c.w, c.text, c.list, last)
			checkBlock(t, fmt.Sprintf("%s, last %v", c.name, last), c.w, c.figures(c.w.Count, last), got, ok)
		}
	}
}

func TestBestBlockRefuses(t *testing.T) {
	r := rand.New(rand.NewSource(110))
	long := strings.Repeat("x", impl.MaxData+1)
	for _, w := range wrongOuts() {
		got, ok := impl.BestBlock(w, "abc", bytesOf("abc"), true)
		checkNoBlock(t, fmt.Sprintf("a wrong Out of %d bits and %d bytes", w.Count, len(w.Text)), got, ok)
	}
	for _, wrong := range wrongTokens() {
		for _, last := range []bool{false, true} {
			got, ok := impl.BestBlock(impl.Out{}, long, []impl.Token{wrong}, last)
			checkNoBlock(t, fmt.Sprintf("too long a text, and %v", wrong), got, ok)
		}
	}
	for _, last := range []bool{false, true} {
		got, ok := impl.BestBlock(impl.Out{}, long, slices.Repeat(bytesOf("a"), impl.MaxBytes+1), last)
		checkNoBlock(t, "too long a text, and too many tokens", got, ok)
		for _, room := range []int{0, 1, 3, 9} {
			got, ok = impl.BestBlock(someOut(r, 8*impl.MaxBytes-room), "", nil, last)
			checkNoBlock(t, fmt.Sprintf("room for %d bits", room), got, ok)
		}
		w := someOut(r, 8*impl.MaxBytes-10)
		got, ok = impl.BestBlock(w, "", nil, last)
		checkBlock(t, "room for 10 bits", w, fixedFigures(nil, last), got, ok)
	}
}

func TestBlocksLeaveArgumentsAlone(t *testing.T) {
	all := tokensOf("abcabc", repeatOf(5, 2), repeatOf(9, 4), "de")
	was := slices.Clone(all)
	w, text := impl.Out{Text: "\x05", Count: 3}, "abcabc"
	for size := range len(all) + 1 {
		list := all[:size]
		first, second, _ := impl.TokenLengths(list)
		for _, last := range []bool{false, true} {
			stored, _ := impl.StoredBlock(w, text, last)
			fixed, _ := impl.FixedBlock(w, list, last)
			woven, _ := impl.WovenBlock(w, list, last)
			best, _ := impl.BestBlock(w, text, list, last)
			again := [4]impl.Out{}
			again[0], _ = impl.StoredBlock(w, text, last)
			again[1], _ = impl.FixedBlock(w, list, last)
			again[2], _ = impl.WovenBlock(w, list, last)
			again[3], _ = impl.BestBlock(w, text, list, last)
			if again != [4]impl.Out{stored, fixed, woven, best} {
				t.Errorf("%d tokens: %v, then %v", size, [4]impl.Out{stored, fixed, woven, best}, again)
			}
		}
		wantFirst, wantSecond := slices.Clone(first), slices.Clone(second)
		clear(first[:cap(first)])
		if !slices.Equal(second, wantSecond) {
			t.Errorf("%d tokens: both lengths share memory", size)
		}
		clear(second[:cap(second)])
		first, second, _ = impl.TokenLengths(list)
		if !slices.Equal(first, wantFirst) || !slices.Equal(second, wantSecond) {
			t.Errorf("%d tokens: other lengths in a second call: %v, %v", size, first, second)
		}
		if !slices.Equal(all, was) {
			t.Fatalf("%d tokens: they became %v", size, all)
		}
	}
}
