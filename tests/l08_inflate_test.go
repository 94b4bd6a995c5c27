package tests

import (
	"bytes"
	"compress/flate"
	"fmt"
	"io"
	"math"
	"math/rand"
	"slices"
	"strings"
	"testing"

	"loop.example/g00099/impl"
)

// Packed texts are written here as figures 0 and 1, a bit a figure, in the order in which they are read.

// low is a number in n figures, the lowest bit first.
func low(value, n int) string {
	var text strings.Builder
	for i := range n {
		text.WriteByte('0' + byte(value>>i&1))
	}
	return text.String()
}

func textOfFigures(parts ...string) string { return outOfFigures(strings.Join(parts, "")).Text }

func blockHead(kind int, last bool) string {
	if last {
		return "1" + low(kind, 2)
	}
	return "0" + low(kind, 2)
}

// symbolText is the codes of the symbols, one behind another.
func symbolText(lengths []int, list ...int) string {
	codes := slowCodes(lengths)
	var text strings.Builder
	for _, symbol := range list {
		text.WriteString(codes[symbol])
	}
	return text.String()
}

// pieceText is the symbols of the tokens, with their extra bits, and without 256 behind them.
func pieceText(first, second []int, list []impl.Token) string {
	firsts, seconds := slowCodes(first), slowCodes(second)
	var text strings.Builder
	for _, token := range list {
		if token.Len == 0 {
			text.WriteString(firsts[token.Lit])
			continue
		}
		sym, bits, extra := slowCode(lengthTable, token.Len)
		text.WriteString(firsts[sym] + low(extra, bits))
		sym, bits, extra = slowCode(distTable, token.Dist)
		text.WriteString(seconds[sym] + low(extra, bits))
	}
	return text.String()
}

func fixedSecond() []int { return slices.Repeat([]int{5}, 32) }

// fixedText are the symbols of a block of type 1, without its end.
func fixedText(list []impl.Token) string { return pieceText(fixedFirst(), fixedSecond(), list) }

func fixedEnd() string { return symbolText(fixedFirst(), 256) }

func sizesText(first, second, third int) string {
	return low(first-257, 5) + low(second-1, 5) + low(third-4, 4)
}

// toldOrder is the order of the third code's lengths.
func toldOrder() []int {
	return []int{16, 17, 18, 0, 8, 7, 9, 6, 10, 5, 11, 4, 12, 3, 13, 2, 14, 1, 15}
}

// thirdText tells the first count lengths of the third code.
func thirdText(third []int, count int) string {
	text := ""
	for _, symbol := range toldOrder()[:count] {
		text += low(third[symbol], 3)
	}
	return text
}

// evenThird has a code for each of the 19 symbols, and is whole.
func evenThird() []int { return runText(4, 13, 5, 6) }

func extraOfRun(sym int) int { return map[int]int{16: 2, 17: 3, 18: 7}[sym] }

func runsText(third []int, runs ...impl.Run) string {
	codes := slowCodes(third)
	var text strings.Builder
	for _, run := range runs {
		text.WriteString(codes[run.Sym] + low(run.Extra, extraOfRun(run.Sym)))
	}
	return text.String()
}

// wovenHead is a block of type 2 up to its last Run.
func wovenHead(first, second []int, last bool) string {
	runs := slowRuns(slices.Concat(first, second))
	return blockHead(2, last) + sizesText(len(first), len(second), 19) + thirdText(evenThird(), 19) + runsText(evenThird(), runs...)
}

// lengthsWith has the lengths of some symbols: each pair is a symbol and its length.
func lengthsWith(size int, pairs ...int) []int {
	list := make([]int, size)
	for i := 0; i < len(pairs); i += 2 {
		list[pairs[i]] = pairs[i+1]
	}
	return list
}

// emptyBlocks are blocks, none the last, that make nothing; their figures are size modulo 8.
func emptyBlocks(size int) string {
	even := blockHead(1, false) + fixedEnd()
	odd := wovenHead(lengthsWith(257, 256, 1), []int{0}, false) + "0"
	if len(odd)%2 == 0 {
		panic("no odd block")
	}
	text := ""
	if size%2 != 0 {
		text = odd
	}
	for len(text)%8 != size%8 {
		text += even
	}
	return text
}

// endingWith is a text whose last bit is the last figure: blocks that make nothing stand ahead.
func endingWith(figures string) string {
	return textOfFigures(emptyBlocks(8-len(figures)%8), figures)
}

func checkRefused(t *testing.T, name, text string, most, code int) {
	t.Helper()
	made, took, got := impl.Inflate(text, most)
	if made != "" || took != 0 || got != code {
		t.Errorf("%s: %d bytes, %d taken, code %d; want code %d", name, len(made), took, got, code)
	}
	if types, ok := impl.BlockTypes(text, most); ok || len(types) != 0 {
		t.Errorf("%s: types %v, %v", name, types, ok)
	}
}

// checkMade wants the whole of the text to be taken.
func checkMade(t *testing.T, name, text string, most int, want string, types []int) {
	t.Helper()
	made, took, code := impl.Inflate(text, most)
	if made != want || took != len(text) || code != 0 {
		t.Errorf("%s: %.40q, %d of %d taken, code %d; want %.40q", name, made, took, len(text), code, want)
	}
	got, ok := impl.BlockTypes(text, most)
	if !ok || !slices.Equal(got, types) {
		t.Errorf("%s: types %v, %v; want %v", name, got, ok, types)
	}
}

// checkMet wants the code to be met with the last of the figures: not a bit ahead of it, and whatever stands behind.
func checkMet(t *testing.T, name, figures string, most, code int) {
	t.Helper()
	checkRefused(t, name+", one bit less", endingWith(figures[:len(figures)-1]), most, impl.InflateEnd)
	text := endingWith(figures)
	checkRefused(t, name, text, most, code)
	checkRefused(t, name+", as the first block", textOfFigures(figures), most, code)
	for _, more := range []string{"\x00", "\xff", strings.Repeat("\x00", 50), strings.Repeat("\xff", 50), "\x01\x00\x00\xff\xff"} {
		checkRefused(t, fmt.Sprintf("%s, and %.5q behind it", name, more), text+more, most, code)
	}
}

// packer lays blocks behind one another.
type packer struct {
	figures strings.Builder
	made    string
	types   []int
}

func (p *packer) text() string { return textOfFigures(p.figures.String()) }

func (p *packer) begin(kind int, last bool) {
	p.types = append(p.types, kind)
	p.figures.WriteString(blockHead(kind, last))
}

// stored passes over bits of any value.
func (p *packer) stored(r *rand.Rand, text string, last bool) {
	p.begin(0, last)
	for p.figures.Len()%8 != 0 {
		p.figures.WriteString(low(r.Intn(2), 1))
	}
	p.figures.WriteString(low(len(text), 16) + low(65535-len(text), 16))
	for i := range len(text) {
		p.figures.WriteString(low(int(text[i]), 8))
	}
	p.made += text
}

func (p *packer) grow(list []impl.Token) {
	more, ok := slowExpand(p.made, list)
	if !ok {
		panic("tokens that are not right")
	}
	p.made += more
}

func (p *packer) fixed(list []impl.Token, last bool) {
	p.begin(1, last)
	p.figures.WriteString(fixedText(list) + fixedEnd())
	p.grow(list)
}

// someCode has a code for each symbol of the list, and perhaps for others: whole, or single, or empty where it may be.
func someCode(r *rand.Rand, used []int, size, deep int, wholeOnly bool) []int {
	have := slices.Clone(used)
	for len(have) < size && (r.Intn(3) == 0 || wholeOnly && len(have) < 2) {
		if symbol := r.Intn(size); !slices.Contains(have, symbol) {
			have = append(have, symbol)
		}
	}
	lengths := make([]int, size)
	switch len(have) {
	case 0:
	case 1:
		lengths[have[0]] = 1
	default:
		for i, n := range wholeLengths(r, len(have), deep) {
			lengths[have[i]] = n
		}
	}
	return lengths
}

// someRunsOf tells the lengths in Runs that need not be the longest.
func someRunsOf(r *rand.Rand, lengths []int) []impl.Run {
	var list []impl.Run
	for at := 0; at < len(lengths); {
		run := impl.Run{Sym: lengths[at]}
		for range 3 {
			other := impl.Run{Sym: 16 + r.Intn(3)}
			other.Extra = r.Intn(1 << extraOfRun(other.Sym))
			if at == 0 && other.Sym == 16 || at+runTable[other] > len(lengths) {
				continue
			}
			what := 0
			if other.Sym == 16 {
				what = lengths[at-1]
			}
			if slices.Equal(lengths[at:at+runTable[other]], slices.Repeat([]int{what}, runTable[other])) {
				run = other
			}
		}
		list = append(list, run)
		at += runTable[run]
	}
	return list
}

func (p *packer) woven(r *rand.Rand, list []impl.Token, last bool) {
	used := map[bool]map[int]bool{false: {256: true}, true: {}}
	most := map[bool]int{false: 256, true: 0}
	note := func(second bool, symbol int) {
		used[second][symbol] = true
		most[second] = max(most[second], symbol)
	}
	for _, token := range list {
		if token.Len == 0 {
			note(false, token.Lit)
			continue
		}
		sym, _, _ := slowCode(lengthTable, token.Len)
		note(false, sym)
		sym, _, _ = slowCode(distTable, token.Dist)
		note(true, sym)
	}
	first := someCode(r, sortedKeys(used[false]), most[false]+1+r.Intn(286-most[false]), 15, false)
	second := someCode(r, sortedKeys(used[true]), most[true]+1+r.Intn(30-most[true]), 15, false)
	runs := slowRuns(slices.Concat(first, second))
	if r.Intn(2) == 0 {
		runs = someRunsOf(r, slices.Concat(first, second))
	}
	p.begin(2, last)
	p.figures.WriteString(headText(r, len(first), len(second), runs) + pieceText(first, second, list) + symbolText(first, 256))
	p.grow(list)
}

func sortedKeys(set map[int]bool) []int {
	var list []int
	for key := range set {
		list = append(list, key)
	}
	slices.Sort(list)
	return list
}

// headText has a third code that is just for these Runs, and tells no more of it than it must, or some more.
func headText(r *rand.Rand, first, second int, runs []impl.Run) string {
	syms := map[int]bool{}
	for _, run := range runs {
		syms[run.Sym] = true
	}
	third := someCode(r, sortedKeys(syms), 19, 7, true)
	count := 19
	for count > 4 && third[toldOrder()[count-1]] == 0 && r.Intn(5) > 0 {
		count--
	}
	return sizesText(first, second, count) + thirdText(third, count) + runsText(third, runs...)
}

func (p *packer) some(r *rand.Rand, kind, size int, last bool) {
	switch kind {
	case 0:
		p.stored(r, randomText(r, size), last)
	case 1:
		p.fixed(someTokens(r, len(p.made), size), last)
	case 2:
		p.woven(r, someTokens(r, len(p.made), size), last)
	}
}

// somePacked has up to most blocks of any types.
func somePacked(r *rand.Rand, most int) *packer {
	p := &packer{}
	for count := 1 + r.Intn(most); count > 0; count-- {
		size := r.Intn(12)
		if r.Intn(8) == 0 {
			size = r.Intn(60)
		}
		p.some(r, r.Intn(3), size, count == 1)
	}
	return p
}

// checkP11 wants the text, with bytes behind it, to be taken up to its own end, and no beginning of it to be.
func checkP11(t *testing.T, name, text, want string, types []int, behind string) {
	t.Helper()
	made, took, code := impl.Inflate(text+behind, impl.MaxBytes)
	if made != want || took != len(text) || code != 0 {
		t.Fatalf("%s: %.40q, %d of %d taken, code %d; want %.40q", name, made, took, len(text), code, want)
	}
	checkMade(t, name, text[:took], impl.MaxBytes, want, types)
	for cut := range took {
		checkRefused(t, fmt.Sprintf("%s, cut at %d", name, cut), text[:cut], impl.MaxBytes, impl.InflateEnd)
	}
	checkMade(t, name+", just as many as it may", text, len(want), want, types)
	for most := max(0, len(want)-300); most < len(want); most++ {
		checkRefused(t, fmt.Sprintf("%s, at most %d", name, most), text, most, impl.InflateMore)
	}
	if t.Failed() {
		t.FailNow()
	}
}

func TestP11OneBlock(t *testing.T) {
	r := rand.New(rand.NewSource(81))
	for kind := range 3 {
		for _, size := range []int{0, 1, 2, 3, 5, 10, 30, 100} {
			for range 6 {
				p := &packer{}
				p.some(r, kind, size, true)
				checkP11(t, fmt.Sprintf("type %d, %d tokens", kind, size), p.text(), p.made, p.types, randomText(r, r.Intn(4)))
			}
		}
	}
}

func TestP11SeveralBlocks(t *testing.T) {
	r := rand.New(rand.NewSource(82))
	for range 150 {
		p := somePacked(r, 6)
		checkP11(t, fmt.Sprintf("types %v", p.types), p.text(), p.made, p.types, randomText(r, r.Intn(10)))
	}
}

// Every way in which bits can stop: a packed text whose last bit is any of its bits but the last.
func TestP11CutAtAnyBit(t *testing.T) {
	r := rand.New(rand.NewSource(83))
	for range 40 {
		p := &packer{}
		p.some(r, 1+r.Intn(2), r.Intn(8), true)
		figures := p.figures.String()
		for cut := range len(figures) {
			checkRefused(t, fmt.Sprintf("%v cut at bit %d", p.types, cut), endingWith(figures[:cut]), impl.MaxBytes, impl.InflateEnd)
		}
		made, took, code := impl.Inflate(endingWith(figures), impl.MaxBytes)
		if made != p.made || took != len(endingWith(figures)) || code != 0 {
			t.Fatalf("%v: %q, %d taken, code %d; want %q", p.types, made, took, code, p.made)
		}
	}
}

// What another packer made, which is none of the program's kin.
func TestP11OfAnotherPacker(t *testing.T) {
	r := rand.New(rand.NewSource(84))
	texts := []string{"", "a", strings.Repeat("a", 12000), wordText(r, 9000), randomText(r, 5000), fewBytes(r, 12000, 5), grownText(r, 11000)}
	for _, text := range append(texts, smallTexts(85, 40, 200)...) {
		for level := -2; level <= 9; level++ {
			var packed bytes.Buffer
			w, err := flate.NewWriter(&packed, level)
			if err != nil {
				t.Fatal(err)
			}
			io.WriteString(w, text)
			w.Close()
			made, took, code := impl.Inflate(packed.String()+"behind", impl.MaxBytes)
			if packed.Len()+6 <= impl.MaxBytes && (made != text || took != packed.Len() || code != 0) {
				t.Fatalf("%.40q by %d: %.40q, %d of %d taken, code %d", text, level, made, took, packed.Len(), code)
			}
		}
	}
}

// slowInflater reads figures, and gives up by a panic with a code.
type slowInflater struct {
	figures string
	at      int
	most    int
	made    []byte
	types   []int
}

func (s *slowInflater) want(right bool, code int) {
	if !right {
		panic(code)
	}
}

func (s *slowInflater) take(n int) int {
	value := 0
	for i := range n {
		s.want(s.at < len(s.figures), impl.InflateEnd)
		value += int(s.figures[s.at]-'0') << i
		s.at++
	}
	return value
}

// beginnings tells of each beginning of a code, in figures, the symbol; -1 where it is not the whole of one.
func beginnings(lengths []int) map[string]int {
	table := map[string]int{}
	for symbol, code := range slowCodes(lengths) {
		for n := range len(code) {
			table[code[:n]] = -1
		}
		if code != "" {
			table[code] = symbol
		}
	}
	return table
}

func (s *slowInflater) symbol(table map[string]int) int {
	for read := ""; ; read += low(s.take(1), 1) {
		symbol, begins := table[read]
		s.want(begins, impl.InflateSymbol)
		if symbol >= 0 {
			return symbol
		}
	}
}

var fixedTables = [2]map[string]int{beginnings(fixedFirst()), beginnings(fixedSecond())}

func (s *slowInflater) stored() {
	for s.at%8 != 0 {
		s.at++
	}
	size, turned := s.take(16), s.take(16)
	s.want(size+turned == 65535, impl.InflateStored)
	s.want(len(s.made)+size <= s.most, impl.InflateMore)
	for range size {
		s.made = append(s.made, byte(s.take(8)))
	}
}

func (s *slowInflater) codes() (map[string]int, map[string]int) {
	first, second, third := s.take(5)+257, s.take(5)+1, s.take(4)+4
	s.want(first <= 286 && second <= 30, impl.InflateCodes)
	lengths := make([]int, 19)
	for _, symbol := range toldOrder()[:third] {
		lengths[symbol] = s.take(3)
	}
	s.want(slowKind(lengths) == impl.CodeWhole, impl.InflateCodes)
	table := beginnings(lengths)
	var runs []impl.Run
	for told := []int(nil); len(told) < first+second; {
		sym := s.symbol(table)
		s.want(sym != 16 || len(runs) > 0, impl.InflateCodes)
		runs = append(runs, impl.Run{Sym: sym, Extra: s.take(extraOfRun(sym))})
		told, _ = slowBack(runs)
		s.want(len(told) <= first+second, impl.InflateCodes)
	}
	all, _ := slowBack(runs)
	kind := slowKind(all[:first])
	s.want((kind == impl.CodeWhole || kind == impl.CodeSingle) && all[256] > 0, impl.InflateCodes)
	kind = slowKind(all[first:])
	s.want(kind == impl.CodeWhole || kind == impl.CodeSingle || kind == impl.CodeEmpty, impl.InflateCodes)
	return beginnings(all[:first]), beginnings(all[first:])
}

func (s *slowInflater) pieces(first, second map[string]int) {
	for {
		sym := s.symbol(first)
		switch {
		case sym == 256:
			return
		case sym < 256:
			s.want(len(s.made) < s.most, impl.InflateMore)
			s.made = append(s.made, byte(sym))
			continue
		}
		s.want(sym < 286, impl.InflateSymbol)
		row := lengthTable[sym-257]
		length := row.least + s.take(row.bits)
		sym = s.symbol(second)
		s.want(sym < 30, impl.InflateSymbol)
		dist := distTable[sym].least + s.take(distTable[sym].bits)
		s.want(dist <= len(s.made), impl.InflateFar)
		s.want(len(s.made)+length <= s.most, impl.InflateMore)
		for range length {
			s.made = append(s.made, s.made[len(s.made)-dist])
		}
	}
}

func (s *slowInflater) blocks() {
	for last := 0; last == 0; {
		last = s.take(1)
		kind := s.take(2)
		s.types = append(s.types, kind)
		switch kind {
		case 0:
			s.stored()
		case 1:
			s.pieces(fixedTables[0], fixedTables[1])
		case 2:
			s.pieces(s.codes())
		case 3:
			panic(impl.InflateType)
		}
	}
}

func figuresOf(text string) string {
	var figures strings.Builder
	for i := range len(text) {
		figures.WriteString(low(int(text[i]), 8))
	}
	return figures.String()
}

func slowInflate(text string, most int) (made string, took int, types []int, code int) {
	if len(text) > 12000 || most < 0 || most > 12000 {
		return "", 0, nil, impl.InflateLong
	}
	defer func() {
		if met := recover(); met != nil {
			made, took, types, code = "", 0, nil, met.(int)
		}
	}()
	s := &slowInflater{figures: figuresOf(text), most: most}
	s.blocks()
	return string(s.made), (s.at + 7) / 8, s.types, 0
}

// checkSlow tells the code, so that a test can see that it came to all of them.
func checkSlow(t *testing.T, text string, most int) int {
	t.Helper()
	made, took, code := impl.Inflate(text, most)
	types, ok := impl.BlockTypes(text, most)
	wantMade, wantTook, wantTypes, wantCode := slowInflate(text, most)
	if made != wantMade || took != wantTook || code != wantCode {
		t.Fatalf("%q, at most %d: %.40q, %d taken, code %d; want %.40q, %d, code %d", text, most, made, took, code, wantMade, wantTook, wantCode)
	}
	if ok != (wantCode == 0) || !slices.Equal(types, wantTypes) {
		t.Fatalf("%q, at most %d: types %v, %v; want %v", text, most, types, ok, wantTypes)
	}
	return code
}

// spoilt has some bits turned, or is cut, or has bytes put in.
func spoilt(r *rand.Rand, text string) string {
	b := []byte(text)
	for range 1 + r.Intn(3) {
		switch at := r.Intn(len(b) + 1); {
		case at == len(b) || r.Intn(6) == 0:
			b = slices.Insert(b, at, byte(r.Intn(256)))
		case r.Intn(6) == 0:
			b = b[:at]
		default:
			b[at] ^= 1 << r.Intn(8)
		}
	}
	return string(b)
}

// checkOther wants what is made of a text to be what another reader makes of it.
func checkOther(t *testing.T, text string) {
	t.Helper()
	made, _, code := impl.Inflate(text, impl.MaxBytes)
	other, err := io.ReadAll(flate.NewReader(strings.NewReader(text)))
	if code == 0 && (err != nil || made != string(other)) {
		t.Fatalf("%q: %.40q, code %d; another reader has %.40q, %v", text, made, code, other, err)
	}
}

func TestInflateOfSpoiltTexts(t *testing.T) {
	r := rand.New(rand.NewSource(86))
	seen := map[int]int{}
	for range 4000 {
		p := somePacked(r, 4)
		text := spoilt(r, p.text())
		seen[checkSlow(t, text, impl.MaxBytes)]++
		seen[checkSlow(t, text, r.Intn(len(p.made)+2))]++
		checkOther(t, text)
	}
	for code := impl.InflateEnd; code <= impl.InflateMore; code++ {
		if seen[code] == 0 {
			t.Errorf("no text has the code %d: %v", code, seen)
		}
	}
}

func TestInflateOfAnyTexts(t *testing.T) {
	r := rand.New(rand.NewSource(87))
	for range 20000 {
		text := randomText(r, r.Intn(40))
		checkSlow(t, text, r.Intn(30))
		checkOther(t, text)
	}
	for first := range 256 {
		for second := range 256 {
			checkSlow(t, string([]byte{byte(first), byte(second)}), 2)
		}
	}
}

func TestInflateLong(t *testing.T) {
	abc := "\x01\x03\x00\xfc\xffabc"
	long := abc + strings.Repeat("\xff", impl.MaxBytes-len(abc))
	if made, took, code := impl.Inflate(long, 3); made != "abc" || took != 8 || code != 0 {
		t.Errorf("MaxBytes bytes: %q, %d, %d", made, took, code)
	}
	checkRefused(t, "one byte more", long+"x", 3, impl.InflateLong)
	checkRefused(t, "one byte more, and type 3", strings.Repeat("\xff", impl.MaxBytes+1), 3, impl.InflateLong)
	checkRefused(t, "MaxBytes bytes of type 3", strings.Repeat("\xff", impl.MaxBytes), 3, impl.InflateType)
	for _, most := range []int{-1, impl.MaxBytes + 1, math.MinInt, math.MaxInt} {
		checkRefused(t, fmt.Sprintf("at most %d", most), abc, most, impl.InflateLong)
		checkRefused(t, fmt.Sprintf("at most %d of nothing", most), "", most, impl.InflateLong)
		checkRefused(t, fmt.Sprintf("at most %d of type 3", most), "\x07", most, impl.InflateLong)
	}
	checkMade(t, "at most MaxBytes", abc, impl.MaxBytes, "abc", []int{0})
	checkRefused(t, "at most 0", abc, 0, impl.InflateMore)
	checkMade(t, "nothing, at most 0", "\x01\x00\x00\xff\xff", 0, "", []int{0})
	checkMade(t, "nothing of type 1, at most 0", "\x03\x00", 0, "", []int{1})
}

// The whole of MaxBytes bytes is a packed text, and MaxBytes bytes are made.
func TestInflateUpToMaxBytes(t *testing.T) {
	r := rand.New(rand.NewSource(88))
	for _, size := range []int{impl.MaxBytes - 5, impl.MaxBytes - 6} {
		p := &packer{}
		p.stored(r, randomText(r, size), true)
		checkMade(t, "stored", p.text(), impl.MaxBytes, p.made, p.types)
	}
	list := bytesOf("a")
	for made := 1; made+258 <= impl.MaxBytes; made += 258 {
		list = append(list, repeatOf(258, 1))
	}
	for kind := 1; kind <= 2; kind++ {
		for more := range 3 {
			p := &packer{}
			tokens := slices.Concat(list, bytesOf(strings.Repeat("b", (impl.MaxBytes-1)%258+more-1)))
			if kind == 1 {
				p.figures.WriteString(blockHead(1, true) + fixedText(tokens) + fixedEnd())
			} else {
				first, second := lengthsWith(286, 'a', 2, 'b', 2, 256, 2, 285, 2), []int{1}
				p.figures.WriteString(wovenHead(first, second, true) + pieceText(first, second, tokens) + symbolText(first, 256))
			}
			name := fmt.Sprintf("type %d, MaxBytes and %d bytes", kind, more-1)
			if more == 2 {
				checkRefused(t, name, p.text(), impl.MaxBytes, impl.InflateMore)
				continue
			}
			want := strings.Repeat("a", impl.MaxBytes-(impl.MaxBytes-1)%258) + strings.Repeat("b", (impl.MaxBytes-1)%258+more-1)
			checkMade(t, name, p.text(), impl.MaxBytes, want, []int{kind})
		}
	}
}

func TestInflateEnd(t *testing.T) {
	checkRefused(t, "nothing", "", 10, impl.InflateEnd)
	for _, head := range []string{"", "0", "1", "00", "01", "10", "11"} {
		checkRefused(t, "within the first bits: "+head, endingWith(head), 10, impl.InflateEnd)
	}
	for _, head := range []string{"000", "100", "001", "101", "010", "110"} {
		checkRefused(t, "behind the first bits: "+head, endingWith(head), 10, impl.InflateEnd)
	}
	// The sizes are all read ahead of being looked at.
	sizes := blockHead(2, true) + sizesText(288, 32, 4)
	for cut := 3; cut < len(sizes); cut++ {
		checkRefused(t, fmt.Sprintf("within sizes, at %d", cut), endingWith(sizes[:cut]), 10, impl.InflateEnd)
	}
	// Lengths that are over already, of which one is missing.
	third := blockHead(2, true) + sizesText(257, 1, 19) + thirdText(slices.Repeat([]int{1}, 19), 19)
	for cut := len(third) - 54; cut < len(third); cut++ {
		checkRefused(t, fmt.Sprintf("within the third code, at %d", cut), endingWith(third[:cut]), 10, impl.InflateEnd)
	}
}

func TestInflateType(t *testing.T) {
	checkMet(t, "type 3", "011", 10, impl.InflateType)
	checkMet(t, "type 3, the last one", "111", 10, impl.InflateType)
	for kind := range 3 {
		p := &packer{}
		p.some(rand.New(rand.NewSource(89)), kind, 4, false)
		checkRefused(t, fmt.Sprintf("type 3 behind type %d", kind), textOfFigures(p.figures.String(), "011"), 3000, impl.InflateType)
		checkRefused(t, fmt.Sprintf("type 3 behind too much of type %d", kind), textOfFigures(p.figures.String(), "011"), 0, impl.InflateMore)
	}
}

func TestInflateStored(t *testing.T) {
	for _, c := range []struct {
		name, text string
		most       int
		code       int
	}{
		{"no number", "\x01", 10, impl.InflateEnd},
		{"half a number", "\x01\x03", 10, impl.InflateEnd},
		{"one number", "\x01\x03\x00", 10, impl.InflateEnd},
		{"a number and a half", "\x01\x03\x00\xfc", 10, impl.InflateEnd},
		{"a half that does not fit", "\x01\x03\x00\x00", 10, impl.InflateEnd},
		{"the same number twice", "\x01\x03\x00\x03\x00abc", 10, impl.InflateStored},
		{"one bit of the third byte", "\x01\x03\x00\xfd\xffabc", 10, impl.InflateStored},
		{"one bit of the fourth byte", "\x01\x03\x00\xfc\x7fabc", 10, impl.InflateStored},
		{"one bit of the first byte", "\x01\x02\x00\xfc\xffabc", 10, impl.InflateStored},
		{"one bit of the second byte", "\x01\x03\x80\xfc\xffabc", 10, impl.InflateStored},
		{"noughts", "\x01\x00\x00\x00\x00", 10, impl.InflateStored},
		{"do not fit, and no bytes", "\x01\x03\x00\xfc\xfe", 10, impl.InflateStored},
		{"do not fit, and too many", "\x01\x03\x00\xfc\xfeabc", 2, impl.InflateStored},
		{"no bytes", "\x01\x03\x00\xfc\xff", 10, impl.InflateEnd},
		{"too few bytes", "\x01\x03\x00\xfc\xffab", 10, impl.InflateEnd},
		{"too few bytes, just as many as may be", "\x01\x03\x00\xfc\xffab", 3, impl.InflateEnd},
		{"too many, and none there", "\x01\x03\x00\xfc\xff", 2, impl.InflateMore},
		{"too many, and too few there", "\x01\x03\x00\xfc\xffab", 2, impl.InflateMore},
		{"too many", "\x01\x03\x00\xfc\xffabc", 2, impl.InflateMore},
		{"the higher byte counts", "\x01\x03\x01\xfc\xfeabc", 258, impl.InflateMore},
		{"the higher byte counts, and they are not there", "\x01\x03\x01\xfc\xfeabc", 259, impl.InflateEnd},
		{"the greatest number", "\x01\xff\xff\x00\x00abc", impl.MaxBytes, impl.InflateMore},
		{"too many in both", "\x00\x03\x00\xfc\xffabc\x01\x03\x00\xfc\xffdef", 5, impl.InflateMore},
		{"no last block", "\x00\x03\x00\xfc\xffabc", 10, impl.InflateEnd},
		{"one that does not fit behind another", "\x00\x03\x00\xfc\xffabc\x01\x03\x00\x03\x00", 10, impl.InflateStored},
	} {
		checkRefused(t, c.name, c.text, c.most, c.code)
	}
	checkMade(t, "three bytes", "\x01\x03\x00\xfc\xffabc", 3, "abc", []int{0})
	checkMade(t, "twice", "\x00\x03\x00\xfc\xffabc\x01\x03\x00\xfc\xffdef", 6, "abcdef", []int{0, 0})
	checkMade(t, "none behind all that may be", "\x00\x03\x00\xfc\xffabc\x01\x00\x00\xff\xff", 3, "abc", []int{0, 0})
	checkMade(t, "bits that are passed over", "\xf9\x01\x00\xfe\xffa", 1, "a", []int{0})
	checkMade(t, "a long one", "\x01\x03\x01\xfc\xfe"+strings.Repeat("xyz", 87)[:259], 259, strings.Repeat("xyz", 87)[:259], []int{0})
}

// A block of type 0 begins at each of a byte's bits; what is passed over may be anything.
func TestInflateStoredBehindBits(t *testing.T) {
	for bit := range 8 {
		for _, fill := range []string{"0", "1"} {
			for _, text := range []string{"", "abc"} {
				figures := emptyBlocks(bit) + blockHead(0, true)
				for len(figures)%8 != 0 {
					figures += fill
				}
				packed := textOfFigures(figures, low(len(text), 16), low(65535-len(text), 16), figuresOf(text))
				made, took, code := impl.Inflate(packed, len(text))
				if made != text || took != len(packed) || code != 0 {
					t.Errorf("behind %d bits, %q: %q, %d, %d", bit, text, made, took, code)
				}
				for cut := len(figures) / 8; cut < len(packed); cut++ {
					checkRefused(t, fmt.Sprintf("behind %d bits, cut at %d", bit, cut), packed[:cut], 3, impl.InflateEnd)
				}
			}
		}
	}
}

func TestInflateFixed(t *testing.T) {
	all := make([]byte, 256)
	for i := range all {
		all[i] = byte(i)
	}
	for _, c := range []struct {
		name string
		list []impl.Token
	}{
		{"nothing", nil},
		{"one byte", bytesOf("a")},
		{"each byte", bytesOf(string(all))},
		{"a repeat of all that is there", tokensOf("abc", repeatOf(3, 3))},
		{"a repeat of its own bytes", tokensOf("a", repeatOf(258, 1))},
		{"several", tokensOf("abcde", repeatOf(4, 5), "f", repeatOf(11, 9), repeatOf(257, 2))},
	} {
		p := &packer{}
		p.fixed(c.list, true)
		checkP11(t, c.name, p.text(), p.made, p.types, "")
	}
	for _, row := range lengthTable {
		for _, extra := range []int{0, 1<<row.bits - 1} {
			length := row.least + extra
			packed := textOfFigures(blockHead(1, true), fixedText(bytesOf("ab")), symbolText(fixedFirst(), row.sym), low(extra, row.bits), symbolText(fixedSecond(), 1), fixedEnd())
			checkMade(t, fmt.Sprintf("length %d by %d", length, row.sym), packed, length+2, strings.Repeat("ab", 131)[:length+2], []int{1})
		}
	}
}

// Each distance that there can be, at its symbol's least and greatest extra bits: just there, and one too far.
func TestInflateFar(t *testing.T) {
	r := rand.New(rand.NewSource(90))
	ahead := randomText(r, impl.MaxBytes-600)
	for _, row := range distTable {
		for _, dist := range []int{row.least, row.least + 1<<row.bits - 1} {
			figures := blockHead(1, true) + fixedText([]impl.Token{repeatOf(5, dist)})
			checkMet(t, fmt.Sprintf("distance %d of nothing", dist), figures, 10, impl.InflateFar)
			checkMet(t, fmt.Sprintf("distance %d of nothing, and too much", dist), figures, 0, impl.InflateFar)
			if dist > len(ahead) {
				continue
			}
			for there := dist - 1; there <= dist; there++ {
				p := &packer{}
				p.stored(r, ahead[:there], false)
				packed := textOfFigures(p.figures.String(), figures, fixedEnd())
				if there < dist {
					checkRefused(t, fmt.Sprintf("distance %d of %d", dist, there), packed, impl.MaxBytes, impl.InflateFar)
					checkRefused(t, fmt.Sprintf("distance %d of %d, and too much", dist, there), packed, there, impl.InflateFar)
					continue
				}
				p.grow([]impl.Token{repeatOf(5, dist)})
				checkMade(t, fmt.Sprintf("distance %d of as many", dist), packed, there+5, p.made, []int{0, 1})
			}
		}
	}
	ab := blockHead(1, true) + fixedText(bytesOf("ab"))
	checkMet(t, "3 of two bytes", ab+fixedText([]impl.Token{repeatOf(3, 3)}), 10, impl.InflateFar)
	checkMet(t, "4 of two bytes, far and too much", ab+fixedText([]impl.Token{repeatOf(3, 4)}), 2, impl.InflateFar)
}

func TestInflateMore(t *testing.T) {
	first, second := lengthsWith(286, 'a', 2, 'b', 2, 256, 3, 257, 3, 285, 3, 270, 3), lengthsWith(5, 0, 2, 1, 2, 3, 2, 4, 2)
	for _, c := range []struct {
		name, head    string
		first, second []int
	}{
		{"type 1", blockHead(1, true), fixedFirst(), fixedSecond()},
		{"type 2", wovenHead(first, second, true), first, second},
	} {
		for _, list := range [][]impl.Token{
			tokensOf("a"), tokensOf("abab"), tokensOf("a", repeatOf(3, 1)), tokensOf("ab", repeatOf(258, 2)),
			tokensOf("aab", repeatOf(3, 2), "b", repeatOf(24, 4)), tokensOf("abaab", repeatOf(25, 5)),
		} {
			made, _ := slowExpand("", list)
			figures := c.head + pieceText(c.first, c.second, list)
			last := max(1, list[len(list)-1].Len)
			name := fmt.Sprintf("%s: %v", c.name, list)
			checkMet(t, name, figures, len(made)-1, impl.InflateMore)
			checkMet(t, name+" of the last token all", figures, len(made)-last, impl.InflateMore)
			packed := endingWith(figures + symbolText(c.first, 256))
			if got, took, code := impl.Inflate(packed, len(made)); got != made || took != len(packed) || code != 0 {
				t.Errorf("%s: %q, %d of %d, code %d", name, got, took, len(packed), code)
			}
		}
	}
}

func TestInflateSymbol(t *testing.T) {
	head := blockHead(1, true)
	length := fixedText(bytesOf("a")) + symbolText(fixedFirst(), 257)
	for _, sym := range []int{286, 287} {
		checkMet(t, fmt.Sprintf("symbol %d", sym), head+symbolText(fixedFirst(), sym), 0, impl.InflateSymbol)
		checkMet(t, fmt.Sprintf("symbol %d behind others", sym), head+length+symbolText(fixedSecond(), 0)+symbolText(fixedFirst(), sym), 10, impl.InflateSymbol)
	}
	for _, sym := range []int{30, 31} {
		checkMet(t, fmt.Sprintf("distance's symbol %d", sym), head+length+symbolText(fixedSecond(), sym), 10, impl.InflateSymbol)
		checkMet(t, fmt.Sprintf("distance's symbol %d, and too much", sym), head+length+symbolText(fixedSecond(), sym), 1, impl.InflateSymbol)
		checkMet(t, fmt.Sprintf("distance's symbol %d of nothing", sym), head+symbolText(fixedFirst(), 257)+symbolText(fixedSecond(), sym), 10, impl.InflateSymbol)
	}

	single := lengthsWith(257, 256, 1)
	checkMet(t, "a first code of one symbol", wovenHead(single, []int{0}, true)+"1", 10, impl.InflateSymbol)
	first := lengthsWith(286, 'a', 2, 256, 2, 257, 2, 265, 2)
	for _, size := range []int{1, 30} {
		empty := wovenHead(first, make([]int, size), true)
		checkMet(t, "no distance's code, met at once", empty+symbolText(first, 'a', 257), 10, impl.InflateSymbol)
		checkMet(t, "no distance's code, behind the extra bit", empty+symbolText(first, 'a', 265)+"0", 10, impl.InflateSymbol)
		checkMet(t, "no distance's code, and too much", empty+symbolText(first, 257), 0, impl.InflateSymbol)
		packed := textOfFigures(empty, symbolText(first, 'a', 'a', 256))
		checkMade(t, "no distance's code, and none wanted", packed, 2, "aa", []int{2})
	}
	for _, sym := range []int{0, 2, 29} {
		head := wovenHead(first, lengthsWith(30, sym, 1), true)
		checkMet(t, "one distance's code, and another bit", head+symbolText(first, 'a', 257)+"1", 10, impl.InflateSymbol)
		checkMet(t, "one distance's code, another bit, and too much", head+symbolText(first, 257)+"1", 0, impl.InflateSymbol)
	}
	one := wovenHead(first, []int{1}, true)
	checkMade(t, "one distance's code", textOfFigures(one, symbolText(first, 'a', 257), "0", symbolText(first, 256)), 4, "aaaa", []int{2})
	checkMade(t, "a first code of one symbol, its own bit", textOfFigures(wovenHead(single, []int{0}, true), "0"), 0, "", []int{2})
}

func TestInflateSizes(t *testing.T) {
	for first := 257; first <= 288; first++ {
		for second := 1; second <= 32; second++ {
			head := blockHead(2, true) + sizesText(first, second, 19)
			name := fmt.Sprintf("%d and %d lengths", first, second)
			if first > 286 || second > 30 {
				checkMet(t, name, head, 10, impl.InflateCodes)
				continue
			}
			lengths, dists := lengthsWith(first, 'a', 2, 256, 1, first-1, 2), lengthsWith(second, second-1, 1)
			if first == 257 {
				lengths = lengthsWith(first, 'a', 1, 256, 1)
			}
			checkMade(t, name, textOfFigures(wovenHead(lengths, dists, true), symbolText(lengths, 'a', 256)), 1, "a", []int{2})
		}
	}
}

func TestInflateThirdCode(t *testing.T) {
	head := blockHead(2, true)
	for _, c := range []struct {
		name  string
		third []int
	}{
		{"empty", make([]int, 19)},
		{"single", lengthsWith(19, 18, 1)},
		{"single, of no lengths", lengthsWith(19, 16, 1)},
		{"loose", lengthsWith(19, 18, 1, 0, 2)},
		{"loose, of one", lengthsWith(19, 17, 7)},
		{"over", lengthsWith(19, 18, 1, 0, 1, 17, 7)},
		{"all over", slices.Repeat([]int{1}, 19)},
		{"just not full", runText(4, 12, 5, 7)},
		{"just over", runText(4, 14, 5, 5)},
	} {
		checkMet(t, c.name, head+sizesText(257, 1, 19)+thirdText(c.third, 19), 10, impl.InflateCodes)
	}
	// Only what is told counts: with the last length it would be whole.
	whole := lengthsWith(19, 18, 1, 0, 2, 1, 2)
	checkMet(t, "not all told", head+sizesText(257, 1, 17)+thirdText(whole, 17), 10, impl.InflateCodes)
	checkMet(t, "four told", head+sizesText(257, 1, 4)+thirdText(whole, 4), 10, impl.InflateCodes)
	runs := runsText(whole, impl.Run{Sym: 18, Extra: 127}, impl.Run{Sym: 18, Extra: 107}, impl.Run{Sym: 1}, impl.Run{Sym: 0})
	for _, count := range []int{18, 19} {
		packed := textOfFigures(head, sizesText(257, 1, count), thirdText(whole, count), runs, "0")
		checkMade(t, "all told", packed, 0, "", []int{2})
	}
}

// wovenRuns is a block of type 2 with just these Runs.
func wovenRuns(first, second int, runs ...impl.Run) string {
	return blockHead(2, true) + sizesText(first, second, 19) + thirdText(evenThird(), 19) + runsText(evenThird(), runs...)
}

func TestInflateRuns(t *testing.T) {
	// Ahead of its extra bits, which are not there.
	again := wovenRuns(257, 1) + symbolText(evenThird(), 16)
	checkMet(t, "the first Run is 16", again, 10, impl.InflateCodes)
	zeros, most := impl.Run{Sym: 18, Extra: 127}, impl.Run{Sym: 18, Extra: 107}
	for _, c := range []struct {
		name string
		runs []impl.Run
	}{
		{"three noughts at the last length", []impl.Run{zeros, most, {Sym: 1}, {Sym: 17}}},
		{"eleven noughts at the last length", []impl.Run{zeros, most, {Sym: 1}, {Sym: 18}}},
		{"three again at the last length", []impl.Run{zeros, most, {Sym: 1}, {Sym: 16}}},
		{"from the first code over the second", []impl.Run{zeros, {Sym: 18, Extra: 106}, {Sym: 1}, {Sym: 16}}},
		{"noughts from the first code over the second", []impl.Run{{Sym: 1}, zeros, {Sym: 18, Extra: 109}}},
		{"one too many", []impl.Run{zeros, {Sym: 18, Extra: 110}}},
		{"far too many", []impl.Run{{Sym: 1}, {Sym: 1}, zeros, zeros}},
	} {
		checkMet(t, c.name, wovenRuns(257, 1, c.runs...), 10, impl.InflateCodes)
	}
	// From the first code into the second, up to its end.
	runs := []impl.Run{zeros, {Sym: 18, Extra: 106}, {Sym: 1}, {Sym: 16}}
	lengths := lengthsWith(257, 255, 1, 256, 1)
	checkMade(t, "into the second code", textOfFigures(wovenRuns(257, 2, runs...), symbolText(lengths, 255, 256)), 1, "\xff", []int{2})
	runs = []impl.Run{{Sym: 1}, zeros, {Sym: 18, Extra: 106}, {Sym: 1}, {Sym: 17, Extra: 7}, {Sym: 17, Extra: 6}}
	lengths = lengthsWith(257, 0, 1, 256, 1)
	checkMade(t, "noughts into the second code", textOfFigures(wovenRuns(267, 9, runs...), symbolText(lengths, 0, 256)), 1, "\x00", []int{2})
	// 16 behind 17 is 0 again.
	runs = []impl.Run{{Sym: 17, Extra: 7}, {Sym: 16, Extra: 3}, zeros, {Sym: 18, Extra: 91}, {Sym: 1}, {Sym: 0}}
	checkMade(t, "noughts again", textOfFigures(wovenRuns(257, 1, runs...), "0"), 0, "", []int{2})
}

func TestInflateCodes(t *testing.T) {
	end, ab := lengthsWith(257, 256, 1), lengthsWith(257, 'a', 1, 256, 1)
	for _, c := range []struct {
		name          string
		first, second []int
	}{
		{"empty", make([]int, 257), []int{0}},
		{"empty, and a second code", make([]int, 257), []int{1}},
		{"whole without 256", lengthsWith(257, 'a', 1, 'b', 1), []int{0}},
		{"whole with 285, without 256", lengthsWith(286, 'a', 1, 285, 1), []int{1}},
		{"one symbol, not 256", lengthsWith(257, 'a', 1), []int{0}},
		{"one symbol behind 256", lengthsWith(258, 257, 1), []int{0}},
		{"256 alone, too long", lengthsWith(257, 256, 2), []int{0}},
		{"256 alone, of 15", lengthsWith(257, 256, 15), []int{0}},
		{"not full", lengthsWith(257, 'a', 1, 256, 2), []int{0}},
		{"just not full", lengthsWith(257, stairPairs(257)[:30]...), []int{0}},
		{"over", lengthsWith(257, 'a', 1, 'b', 1, 256, 1), []int{0}},
		{"just over", lengthsWith(257, 'a', 1, 'b', 1, 256, 15), []int{0}},
		{"a second code that is not full", ab, []int{1, 2}},
		{"a second code of one, too long", ab, []int{2}},
		{"a second code of one, of 15", ab, lengthsWith(30, 29, 15)},
		{"a second code of two, not full", ab, []int{2, 2}},
		{"a second code that is over", ab, []int{1, 1, 1}},
		{"a second code that is just over", ab, []int{1, 1, 15}},
		{"a second code that is over, and none to want it", end, []int{1, 1, 1}},
		{"30 of a second code, not full", ab, slices.Repeat([]int{5}, 30)},
		{"30 of a second code, over", ab, slices.Repeat([]int{4}, 30)},
	} {
		checkMet(t, c.name, wovenHead(c.first, c.second, true), 10, impl.InflateCodes)
	}
	for _, c := range []struct {
		name          string
		first, second []int
	}{
		{"256 alone", end, []int{0}},
		{"256 alone, and a second code", end, []int{1, 1}},
		{"two", ab, []int{0}},
		{"256 as the longest", lengthsWith(257, stairPairs(256)...), []int{0}},
		{"all symbols", runText(8, 226, 9, 60), []int{1, 1}},
		{"a second code of one", ab, []int{1}},
		{"a second code of the last one", ab, lengthsWith(30, 29, 1)},
		{"a whole second code", ab, runText(4, 2, 5, 28)},
		{"a deep second code", ab, stair(15)},
	} {
		packed := textOfFigures(wovenHead(c.first, c.second, true), symbolText(c.first, 256))
		checkMade(t, c.name, packed, 0, "", []int{2})
	}
}

// stairPairs are symbols and lengths of a whole code, of which the last symbol is one of the two longest.
func stairPairs(last int) []int {
	var pairs []int
	for i, n := range stair(15) {
		pairs = append(pairs, last-15+i, n)
	}
	return pairs
}

func TestBlockTypes(t *testing.T) {
	r := rand.New(rand.NewSource(91))
	for i := range 27 {
		kinds := []int{i % 3, i / 3 % 3, i / 9}
		for count := 1; count <= 3; count++ {
			p := &packer{}
			for j, kind := range kinds[:count] {
				p.some(r, kind, 3, j == count-1)
			}
			types, ok := impl.BlockTypes(p.text()+"x", len(p.made))
			if !ok || !slices.Equal(types, kinds[:count]) {
				t.Errorf("%v: %v, %v", kinds[:count], types, ok)
			}
			if len(p.made) == 0 {
				continue
			}
			if types, ok := impl.BlockTypes(p.text(), len(p.made)-1); ok || len(types) != 0 {
				t.Errorf("%v, and too much: %v, %v", kinds[:count], types, ok)
			}
		}
	}
	// As many as there can be.
	many := strings.Repeat(blockHead(1, false)+fixedEnd(), 9599) + blockHead(1, true) + fixedEnd()
	types, ok := impl.BlockTypes(textOfFigures(many), 0)
	if !ok || !slices.Equal(types, slices.Repeat([]int{1}, 9600)) {
		t.Errorf("9600 blocks: %d, %v", len(types), ok)
	}
}

func TestBlockTypesAreNewMemory(t *testing.T) {
	text := textOfFigures(emptyBlocks(7), blockHead(1, true), fixedEnd())
	one, _ := impl.BlockTypes(text, 10)
	want := slices.Clone(one)
	for i := range one {
		one[i] = 9
	}
	if two, ok := impl.BlockTypes(text, 10); !ok || !slices.Equal(two, want) {
		t.Errorf("a second call: %v, %v; want %v", two, ok, want)
	}
}
