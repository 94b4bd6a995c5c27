package tests

import (
	"math"
	"math/rand"
	"slices"
	"strings"
	"testing"

	"loop.example/g00099/impl"
)

// symbolRow is a symbol, how many extra bits it has, and the least number that it stands for.
type symbolRow struct{ sym, bits, least int }

// lengthRows goes by the document's words: the symbols in order, each behind the lengths of the one ahead.
func lengthRows() []symbolRow {
	var rows []symbolRow
	next := 3
	for sym := 257; sym <= 284; sym++ {
		bits := 0
		if sym >= 265 {
			bits = (sym-265)/4 + 1
		}
		rows = append(rows, symbolRow{sym, bits, next})
		next += 1 << bits
	}
	return append(rows, symbolRow{285, 0, 258})
}

func distRows() []symbolRow {
	var rows []symbolRow
	next := 1
	for sym := range 30 {
		bits := 0
		if sym >= 4 {
			bits = (sym-4)/2 + 1
		}
		rows = append(rows, symbolRow{sym, bits, next})
		next += 1 << bits
	}
	return rows
}

// slowCode looks for the number from the last symbol on, so that 258 is found at 285.
func slowCode(rows []symbolRow, n int) (int, int, int) {
	for _, row := range slices.Backward(rows) {
		if n >= row.least && n < row.least+1<<row.bits {
			return row.sym, row.bits, n - row.least
		}
	}
	return 0, 0, 0
}

func slowOf(rows []symbolRow, sym, extra int) (int, bool) {
	for _, row := range rows {
		if row.sym == sym && extra >= 0 && extra < 1<<row.bits {
			return row.least + extra, true
		}
	}
	return 0, false
}

// coder is one of the two kinds of numbers that symbols stand for.
type coder struct {
	name        string
	code        func(int) (int, int, int)
	of          func(int, int) (int, bool)
	rows        []symbolRow
	least, most int
}

func coders() []coder {
	return []coder{
		{"length", impl.LengthCode, impl.LengthOf, lengthRows(), impl.MinLen, impl.MaxLen},
		{"dist", impl.DistCode, impl.DistOf, distRows(), 1, impl.MaxDist},
	}
}

func TestP6NumbersComeBackFromTheirSymbols(t *testing.T) {
	for _, c := range coders() {
		ahead := math.MinInt
		for n := c.least; n <= c.most; n++ {
			sym, bits, extra := c.code(n)
			if extra < 0 || extra >= 1<<bits {
				t.Fatalf("%s %d: %d is not told by %d bits", c.name, n, extra, bits)
			}
			if back, ok := c.of(sym, extra); !ok || back != n {
				t.Fatalf("%s %d: its symbol %d with %d tells %d, %v", c.name, n, sym, extra, back, ok)
			}
			if sym < ahead {
				t.Fatalf("%s %d: the symbol %d is behind %d", c.name, n, sym, ahead)
			}
			ahead = sym
		}
	}
}

func oddNumbers() []int {
	return []int{math.MinInt, math.MinInt + 1, -1 << 40, -258, -257, -3, -2, -1, 0, 1, 2,
		1 << 32, 1<<32 + 3, 1<<32 + 258, 1 << 62, math.MaxInt - 1, math.MaxInt}
}

func TestCodesOfEachNumber(t *testing.T) {
	for _, c := range coders() {
		numbers := oddNumbers()
		for n := -70; n <= c.most+70; n++ {
			numbers = append(numbers, n)
		}
		for _, n := range numbers {
			sym, bits, extra := c.code(n)
			wantSym, wantBits, wantExtra := slowCode(c.rows, n)
			if sym != wantSym || bits != wantBits || extra != wantExtra {
				t.Fatalf("%s %d: %d %d %d, not %d %d %d", c.name, n, sym, bits, extra, wantSym, wantBits, wantExtra)
			}
		}
	}
}

func TestNumbersOfEachSymbol(t *testing.T) {
	for _, c := range coders() {
		symbols := oddNumbers()
		for sym := -40; sym <= 330; sym++ {
			symbols = append(symbols, sym)
		}
		for _, sym := range symbols {
			extras := oddNumbers()
			for bits := range 16 {
				extras = append(extras, 1<<bits-1, 1<<bits, 1<<bits+1)
			}
			for _, extra := range extras {
				n, ok := c.of(sym, extra)
				want, right := slowOf(c.rows, sym, extra)
				if n != want || ok != right {
					t.Fatalf("%s of %d with %d: %d %v, not %d %v", c.name, sym, extra, n, ok, want, right)
				}
			}
		}
	}
}

func TestLengthCode(t *testing.T) {
	cases := []struct{ n, sym, bits, extra int }{
		{math.MinInt, 0, 0, 0}, {-258, 0, 0, 0}, {-3, 0, 0, 0}, {-1, 0, 0, 0}, {0, 0, 0, 0}, {2, 0, 0, 0},
		{3, 257, 0, 0}, {10, 264, 0, 0}, {11, 265, 1, 0}, {12, 265, 1, 1}, {13, 266, 1, 0},
		{226, 283, 5, 31}, {227, 284, 5, 0}, {257, 284, 5, 30}, {258, 285, 0, 0}, {259, 0, 0, 0}, {math.MaxInt, 0, 0, 0},
	}
	for _, c := range cases {
		sym, bits, extra := impl.LengthCode(c.n)
		if sym != c.sym || bits != c.bits || extra != c.extra {
			t.Errorf("length %d: %d %d %d", c.n, sym, bits, extra)
		}
	}
}

func TestLengthOf(t *testing.T) {
	cases := []struct {
		sym, extra, n int
		ok            bool
	}{
		{256, 0, 0, false}, {257, 0, 3, true}, {257, 1, 0, false}, {257, -1, 0, false},
		{264, 0, 10, true}, {264, 1, 0, false}, {265, 0, 11, true}, {265, 1, 12, true}, {265, 2, 0, false},
		{284, -1, 0, false}, {284, 0, 227, true}, {284, 30, 257, true}, {284, 31, 258, true}, {284, 32, 0, false},
		{285, -1, 0, false}, {285, 0, 258, true}, {285, 1, 0, false}, {286, 0, 0, false}, {-1, 0, 0, false},
	}
	for _, c := range cases {
		if n, ok := impl.LengthOf(c.sym, c.extra); n != c.n || ok != c.ok {
			t.Errorf("%d with %d: %d %v", c.sym, c.extra, n, ok)
		}
	}
}

func TestDistCode(t *testing.T) {
	cases := []struct{ n, sym, bits, extra int }{
		{math.MinInt, 0, 0, 0}, {-1, 0, 0, 0}, {0, 0, 0, 0}, {1, 0, 0, 0}, {2, 1, 0, 0}, {4, 3, 0, 0},
		{5, 4, 1, 0}, {6, 4, 1, 1}, {7, 5, 1, 0}, {8, 5, 1, 1}, {9, 6, 2, 0}, {24576, 28, 13, 8191}, {24577, 29, 13, 0},
		{impl.MaxDist, 29, 13, 8191}, {impl.MaxDist + 1, 0, 0, 0}, {math.MaxInt, 0, 0, 0},
	}
	for _, c := range cases {
		sym, bits, extra := impl.DistCode(c.n)
		if sym != c.sym || bits != c.bits || extra != c.extra {
			t.Errorf("distance %d: %d %d %d", c.n, sym, bits, extra)
		}
	}
}

func TestDistOf(t *testing.T) {
	cases := []struct {
		sym, extra, n int
		ok            bool
	}{
		{-1, 0, 0, false}, {0, -1, 0, false}, {0, 0, 1, true}, {0, 1, 0, false}, {3, 0, 4, true}, {3, 1, 0, false},
		{4, -1, 0, false}, {4, 0, 5, true}, {4, 1, 6, true}, {4, 2, 0, false},
		{29, -1, 0, false}, {29, 0, 24577, true}, {29, 8191, impl.MaxDist, true}, {29, 8192, 0, false}, {30, 0, 0, false},
	}
	for _, c := range cases {
		if n, ok := impl.DistOf(c.sym, c.extra); n != c.n || ok != c.ok {
			t.Errorf("%d with %d: %d %v", c.sym, c.extra, n, ok)
		}
	}
}

func TestTokenOk(t *testing.T) {
	// A field is looked at as it is, not as what is left of it in a byte.
	lits := []int{math.MinInt, -256, -1, 0, 1, 97, 255, 256, 1 << 32, math.MaxInt}
	lens := []int{math.MinInt, -3, -1, 0, 1, 2, 3, 4, 257, 258, 259, 1<<32 + 3, math.MaxInt}
	dists := []int{math.MinInt, -1, 0, 1, 2, 32767, 32768, 32769, 1<<32 + 1, math.MaxInt}
	for _, lit := range lits {
		for _, length := range lens {
			for _, dist := range dists {
				isByte := 0 <= lit && lit <= 255 && length == 0 && dist == 0
				isRepeat := lit == 0 && 3 <= length && length <= 258 && 1 <= dist && dist <= 32768
				token := impl.Token{Lit: lit, Len: length, Dist: dist}
				if impl.TokenOk(token) != (isByte || isRepeat) {
					t.Errorf("%v", token)
				}
			}
		}
	}
}

// bytesOf is the text, a token a byte.
func bytesOf(text string) []impl.Token {
	list := make([]impl.Token, len(text))
	for i := range list {
		list[i].Lit = int(text[i])
	}
	return list
}

// slowExpand makes the bytes by a text that grows, and looks at its size behind the last token.
func slowExpand(before string, list []impl.Token) (string, bool) {
	if len(before) > 12000 {
		return "", false
	}
	all := before
	for _, token := range list {
		switch {
		case token.Len == 0 && token.Dist == 0 && token.Lit >= 0 && token.Lit < 256:
			all += string([]byte{byte(token.Lit)})
		case token.Lit == 0 && token.Len >= 3 && token.Len <= 258 && token.Dist > 0 && token.Dist <= min(len(all), 32768):
			unit := all[len(all)-token.Dist:]
			all += strings.Repeat(unit, token.Len/len(unit)+1)[:token.Len]
		default:
			return "", false
		}
	}
	if len(all)-len(before) > 12000 {
		return "", false
	}
	return all[len(before):], true
}

// someTokens are right ones, with no Dist greater than what is there behind a text of so many bytes.
func someTokens(r *rand.Rand, before, size int) []impl.Token {
	var list []impl.Token
	for range size {
		if before == 0 || r.Intn(2) == 0 {
			list = append(list, impl.Token{Lit: r.Intn(256)})
			before++
			continue
		}
		dist := 1 + r.Intn(before)
		if r.Intn(2) == 0 {
			dist = 1 + r.Intn(min(before, 5))
		}
		length := 3 + r.Intn(10)
		if r.Intn(8) == 0 {
			length = 3 + r.Intn(256)
		}
		list = append(list, impl.Token{Len: length, Dist: min(dist, 32768)})
		before += length
	}
	return list
}

func checkExpand(t *testing.T, before string, list []impl.Token) (string, bool) {
	t.Helper()
	text, ok := impl.Expand(before, list)
	want, right := slowExpand(before, list)
	if text != want || ok != right {
		t.Fatalf("behind %d bytes %v: %d bytes %v, not %d bytes %v", len(before), list, len(text), ok, len(want), right)
	}
	return text, ok
}

func TestP6TokensMakeTheirText(t *testing.T) {
	r := rand.New(rand.NewSource(61))
	for range 3000 {
		before := randomText(r, r.Intn(40))
		list := someTokens(r, len(before), r.Intn(40))
		if _, ok := checkExpand(t, before, list); !ok {
			t.Fatalf("%q %v is refused", before, list)
		}
	}
}

func TestP6WhateverStandsAhead(t *testing.T) {
	r := rand.New(rand.NewSource(62))
	for range 500 {
		near := randomText(r, r.Intn(30))
		list := someTokens(r, len(near), r.Intn(30))
		want, _ := checkExpand(t, near, list)
		for _, size := range []int{0, 1, 500, impl.MaxBytes - len(near)} {
			text, ok := impl.Expand(randomText(r, size)+near, list)
			if !ok || text != want {
				t.Fatalf("%d bytes ahead of %q change what %v make", size, near, list)
			}
		}
	}
}

func TestP6AtOnceAndInParts(t *testing.T) {
	r := rand.New(rand.NewSource(63))
	for range 500 {
		before := randomText(r, r.Intn(20))
		list := someTokens(r, len(before), 1+r.Intn(30))
		all, _ := checkExpand(t, before, list)
		cut := r.Intn(len(list) + 1)
		first, ok := impl.Expand(before, list[:cut])
		second, more := impl.Expand(before+first, list[cut:])
		if !ok || !more || first+second != all {
			t.Fatalf("%q %v cut at %d: %q and %q", before, list, cut, first, second)
		}
	}
}

// anyToken is right, or nearly.
func anyToken(r *rand.Rand) impl.Token {
	lits := []int{-1, 0, 0, 0, 0, 0, 0, 7, 97, 255, 256}
	lens := []int{0, 0, 0, 0, 2, 3, 3, 4, 5, 9, 258, 259}
	dists := []int{-1, 0, 0, 0, 0, 1, 1, 2, 3, 7, 20, 32769}
	return impl.Token{Lit: lits[r.Intn(len(lits))], Len: lens[r.Intn(len(lens))], Dist: dists[r.Intn(len(dists))]}
}

func TestExpandOfAnyTokens(t *testing.T) {
	r := rand.New(rand.NewSource(64))
	right := 0
	for range 30000 {
		list := make([]impl.Token, r.Intn(5))
		for i := range list {
			list[i] = anyToken(r)
		}
		if _, ok := checkExpand(t, randomText(r, r.Intn(6)), list); ok {
			right++
		}
	}
	if right < 3000 || right > 27000 {
		t.Errorf("%d of them are right", right)
	}
}

func TestExpand(t *testing.T) {
	repeat := func(length, dist int) impl.Token { return impl.Token{Len: length, Dist: dist} }
	cases := []struct {
		before string
		list   []impl.Token
		text   string
		ok     bool
	}{
		{"", nil, "", true},
		{"", []impl.Token{}, "", true},
		{"ahead", nil, "", true},
		{"", bytesOf("a\x00\xff"), "a\x00\xff", true},
		{"ahead", bytesOf("b"), "b", true},
		{"abcdef", []impl.Token{repeat(3, 4)}, "cde", true},
		{"abcdef", []impl.Token{repeat(3, 6)}, "abc", true},
		{"abcdef", []impl.Token{repeat(6, 6)}, "abcdef", true},
		{"abcdef", []impl.Token{repeat(3, 7)}, "", false},
		{"abcdef", append(bytesOf("g"), repeat(3, 7)), "gabc", true},
		{"abcdef", append(bytesOf("g"), repeat(3, 8)), "", false},
		{"", append(bytesOf("a"), repeat(3, 1)), "aaaa", true},
		{"", append(bytesOf("a"), repeat(3, 2)), "", false},
		{"", []impl.Token{repeat(3, 1)}, "", false},
		{"a", []impl.Token{repeat(258, 1)}, strings.Repeat("a", 258), true},
		{"abc", []impl.Token{repeat(7, 3)}, "abcabca", true},
		{"abc", []impl.Token{repeat(4, 2), repeat(5, 4)}, "bcbcbcbcb", true},
	}
	for _, c := range cases {
		if text, ok := impl.Expand(c.before, c.list); text != c.text || ok != c.ok {
			t.Errorf("%q %v: %q %v", c.before, c.list, text, ok)
		}
	}
}

func wrongTokens() []impl.Token {
	return []impl.Token{
		{Lit: -1}, {Lit: 256}, {Lit: math.MinInt}, {Lit: math.MaxInt}, {Lit: 97, Len: 3}, {Lit: 97, Dist: 1}, {Lit: 97, Len: 3, Dist: 1},
		{Len: 3}, {Dist: 1}, {Len: 2, Dist: 1}, {Len: 259, Dist: 1}, {Len: -3, Dist: 1}, {Len: math.MaxInt, Dist: 1},
		{Len: 3, Dist: -1}, {Len: 3, Dist: math.MinInt}, {Len: 3, Dist: 32769}, {Len: 3, Dist: math.MaxInt},
	}
}

func TestExpandOfWrongTokens(t *testing.T) {
	r := rand.New(rand.NewSource(65))
	for _, wrong := range wrongTokens() {
		for _, before := range []string{"", "abc", randomText(r, impl.MaxBytes)} {
			right := someTokens(r, len(before), 20)
			for _, at := range []int{0, 1, 10, len(right)} {
				list := slices.Insert(slices.Clone(right), at, wrong)
				if text, ok := impl.Expand(before, list); ok || text != "" {
					t.Errorf("%v at %d: %d bytes %v", wrong, at, len(text), ok)
				}
			}
		}
	}
}

// No more than MaxBytes stand ahead and are made, so that a right distance may still be too far whatever there is.
func TestExpandFarBack(t *testing.T) {
	r := rand.New(rand.NewSource(66))
	before := randomText(r, impl.MaxBytes)
	text := randomText(r, impl.MaxBytes-3)
	for _, c := range []struct {
		dist int
		ok   bool
	}{{2*impl.MaxBytes - 3, true}, {2*impl.MaxBytes - 2, false}, {impl.MaxDist, false}} {
		got, ok := checkExpand(t, before, append(bytesOf(text), impl.Token{Len: 3, Dist: c.dist}))
		if ok != c.ok || ok && got != text+before[:3] {
			t.Errorf("%d: %d bytes %v", c.dist, len(got), ok)
		}
	}
}

func TestExpandBehindLongTexts(t *testing.T) {
	r := rand.New(rand.NewSource(67))
	most := randomText(r, impl.MaxBytes)
	list := append(bytesOf("ab"), impl.Token{Len: 5, Dist: impl.MaxBytes + 2}, impl.Token{Len: 4, Dist: 6})
	if text, ok := impl.Expand(most, list); !ok || text != "ab"+most[:5]+"b"+most[:3] {
		t.Errorf("behind MaxBytes: %q %v", text, ok)
	}
	if text, ok := impl.Expand(most, nil); !ok || text != "" {
		t.Errorf("nothing behind MaxBytes: %q %v", text, ok)
	}
	for _, list := range [][]impl.Token{nil, bytesOf("ab")} {
		if text, ok := impl.Expand(most+"a", list); ok || text != "" {
			t.Errorf("behind one more: %q %v", text, ok)
		}
	}
}

// manyBytes are tokens that make so many bytes: mostly repeats, and bytes for what is left.
func manyBytes(size int) []impl.Token {
	list := bytesOf("x")
	made := 1
	for made+impl.MaxLen <= size {
		list = append(list, impl.Token{Len: impl.MaxLen, Dist: 1})
		made += impl.MaxLen
	}
	return append(list, bytesOf(strings.Repeat("x", size-made))...)
}

func TestExpandUpToMaxBytes(t *testing.T) {
	r := rand.New(rand.NewSource(68))
	for _, before := range []string{"", "a", "some text", randomText(r, impl.MaxBytes)} {
		for _, more := range []int{-1, 0, 1, 2, 258} {
			size := impl.MaxBytes + more
			lists := [][]impl.Token{
				manyBytes(size),
				bytesOf(strings.Repeat("x", size)),
				append(manyBytes(size-impl.MaxLen), impl.Token{Len: impl.MaxLen, Dist: 1}),
				append(manyBytes(size-impl.MinLen), impl.Token{Len: impl.MinLen, Dist: 1}),
			}
			for i, list := range lists {
				text, ok := impl.Expand(before, list)
				if ok != (more <= 0) || ok && text != strings.Repeat("x", size) || !ok && text != "" {
					t.Errorf("behind %d bytes, %d more, list %d: %d bytes %v", len(before), more, i, len(text), ok)
				}
			}
		}
	}
}

func TestTokensLeaveArgumentsAlone(t *testing.T) {
	all := append(bytesOf("abc"), impl.Token{Len: 5, Dist: 2}, impl.Token{Lit: 77}, impl.Token{Lit: 78})
	was := slices.Clone(all)
	for size := range len(all) + 1 {
		first, ok := impl.Expand("ahead", all[:size])
		second, again := impl.Expand("ahead", all[:size])
		if !ok || !again || first != second || !slices.Equal(all, was) {
			t.Errorf("%d tokens: %q %v, then %q %v; %v", size, first, ok, second, again, all)
		}
	}
}
