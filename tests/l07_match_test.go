package tests

import (
	"math"
	"math/rand"
	"slices"
	"strings"
	"testing"

	"loop.example/g00099/impl"
)

func repeatOf(length, dist int) impl.Token { return impl.Token{Len: length, Dist: dist} }

// slowBest goes by the document's words, place by place.
func slowBest(text string, at, chain int) (int, int) {
	if len(text) > 2600 || chain < 1 || chain > 64 || at < 0 || at > len(text)-3 {
		return 0, 0
	}
	length, dist := 0, 0
	for from := at - 1; from >= 0 && chain > 0; from-- {
		if text[from:from+3] != text[at:at+3] {
			continue
		}
		chain--
		n := 3
		for n < 258 && strings.HasPrefix(text[from:], text[at:min(at+n+1, len(text))]) && at+n < len(text) {
			n++
		}
		if n > length {
			length, dist = n, at-from
		}
	}
	return length, dist
}

// slowTokens is Greedy, or Lazy.
func slowTokens(text string, chain int, lazy bool) []impl.Token {
	var list []impl.Token
	for at := 0; at < len(text); {
		length, dist := slowBest(text, at, chain)
		next, _ := slowBest(text, at+1, chain)
		if length == 0 || lazy && next > length {
			list = append(list, bytesOf(text[at:at+1])...)
			at++
			continue
		}
		list = append(list, repeatOf(length, dist))
		at += length
	}
	return list
}

var lengthTable, distTable = lengthRows(), distRows()

func slowTokenCost(token impl.Token) int {
	switch {
	case token.Len == 0 && token.Lit < 144:
		return 8
	case token.Len == 0:
		return 9
	}
	sym, lengthBits, _ := slowCode(lengthTable, token.Len)
	_, distBits, _ := slowCode(distTable, token.Dist)
	if sym < 280 {
		return 7 + lengthBits + 5 + distBits
	}
	return 8 + lengthBits + 5 + distBits
}

func slowTokensCost(list []impl.Token) int {
	cost := 0
	for _, token := range list {
		cost += slowTokenCost(token)
	}
	return cost
}

// stepsAt are all steps there are at the place, in the order in which they are taken where they cost as little.
func stepsAt(text string, at, chain int) []impl.Token {
	steps := bytesOf(text[at : at+1])
	length, dist := slowBest(text, at, chain)
	for n := 3; n <= length; n++ {
		steps = append(steps, repeatOf(n, dist))
	}
	return steps
}

// everyWay tells all ways from the place on, in that order.
func everyWay(text string, at, chain int, way []impl.Token, tell func([]impl.Token)) {
	if at == len(text) {
		tell(way)
		return
	}
	for _, step := range stepsAt(text, at, chain) {
		everyWay(text, at+max(1, step.Len), chain, append(way, step), tell)
	}
}

// leastWay tries every way, so the text is to be short.
func leastWay(text string, chain int) []impl.Token {
	var best []impl.Token
	everyWay(text, 0, chain, nil, func(way []impl.Token) {
		if best == nil || slowTokensCost(way) < slowTokensCost(best) {
			best = slices.Clone(way)
		}
	})
	return best
}

// leastCosts tells of each place what the cheapest way up to it costs: from the first byte on, so the other way round than from the end.
func leastCosts(text string, chain int) []int {
	costs := slices.Repeat([]int{math.MaxInt}, len(text)+1)
	costs[0] = 0
	for at := range len(text) {
		for _, step := range stepsAt(text, at, chain) {
			to := at + max(1, step.Len)
			costs[to] = min(costs[to], costs[at]+slowTokenCost(step))
		}
	}
	return costs
}

// plainText has no three bytes twice; its bytes are from low up to below high.
func plainText(r *rand.Rand, size, low, high int) string {
	seen := map[string]bool{}
	text := []byte{}
	for len(text) < size {
		text = append(text, byte(low+r.Intn(high-low)))
		if len(text) < 3 {
			continue
		}
		last := string(text[len(text)-3:])
		if seen[last] {
			text = text[:len(text)-1]
			continue
		}
		seen[last] = true
	}
	return string(text)
}

// fewBytes has bytes of a few kinds only, so that repeats come often.
func fewBytes(r *rand.Rand, size, kinds int) string {
	text := make([]byte, size)
	for i := range text {
		text[i] = byte(140 + r.Intn(kinds))
	}
	return string(text)
}

// wordText is made of some words, again and again, at several distances.
func wordText(r *rand.Rand, size int) string {
	words := make([]string, 2+r.Intn(8))
	for i := range words {
		words[i] = randomText(r, 1+r.Intn(12))
	}
	text := ""
	for len(text) < size {
		text += words[r.Intn(len(words))]
	}
	return text[:size]
}

// grownText is made by tokens, so that there are repeats in it.
func grownText(r *rand.Rand, size int) string {
	text := ""
	for len(text) < size {
		more, _ := slowExpand(text, someTokens(r, len(text), 10))
		text += more
	}
	return text[:size]
}

func matchTexts() []string {
	r := rand.New(rand.NewSource(71))
	texts := []string{"", "a", "\xff", "ab", "aa", "abc", "aaa", "abcd", "aaaa", "\xff\xff\xff\xff", "abcabc", "abcab", "ababab"}
	for _, size := range []int{5, 258, 259, 260, 261, 262, 517, 518, 519, impl.MaxData} {
		texts = append(texts, strings.Repeat("a", size), strings.Repeat("\xf0", size), strings.Repeat("abcdefg", size)[:size])
	}
	for _, size := range []int{10, 300, impl.MaxData} {
		texts = append(texts, plainText(r, size, 0, 144), plainText(r, size, 144, 256), plainText(r, size, 100, 200))
	}
	for _, size := range []int{20, 50, 400, impl.MaxData} {
		texts = append(texts, fewBytes(r, size, 2), fewBytes(r, size, 3), fewBytes(r, size, 8), wordText(r, size), grownText(r, size))
	}
	half := plainText(r, impl.MaxData/2, 0, 256)
	return append(texts, half+half, half+strings.Repeat("a", impl.MaxData/2))
}

// smallTexts are many short ones.
func smallTexts(seed int64, count, most int) []string {
	r := rand.New(rand.NewSource(seed))
	texts := make([]string, count)
	for i := range texts {
		size := r.Intn(most + 1)
		switch r.Intn(3) {
		case 0:
			texts[i] = fewBytes(r, size, 1+r.Intn(4))
		case 1:
			texts[i] = wordText(r, size)
		case 2:
			texts[i] = grownText(r, size)
		}
	}
	return texts
}

type searcher struct {
	name   string
	tokens func(string, int) ([]impl.Token, bool)
}

func searchers() []searcher {
	return []searcher{{"Greedy", impl.Greedy}, {"Lazy", impl.Lazy}, {"Cheapest", impl.Cheapest}}
}

func costOfTokens(t *testing.T, list []impl.Token) int {
	t.Helper()
	cost, ok := impl.TokensCost(list)
	if want := slowTokensCost(list); !ok || cost != want {
		t.Fatalf("%v: %d %v, not %d", list, cost, ok, want)
	}
	return cost
}

func checkP7(t *testing.T, text string, chain int) {
	t.Helper()
	costs := map[string]int{}
	for _, s := range searchers() {
		list, ok := s.tokens(text, chain)
		if !ok {
			t.Fatalf("%s refuses %q, chain %d", s.name, text, chain)
		}
		if back, ok := impl.Expand("", list); !ok || back != text {
			t.Fatalf("%s of %q, chain %d: %v makes %q %v", s.name, text, chain, list, back, ok)
		}
		costs[s.name] = costOfTokens(t, list)
	}
	least := min(costs["Greedy"], costs["Lazy"], costOfTokens(t, bytesOf(text)))
	if costs["Cheapest"] > least {
		t.Fatalf("%q, chain %d: Cheapest costs %d, another way %d", text, chain, costs["Cheapest"], least)
	}
}

func TestP7TokensMakeTheirText(t *testing.T) {
	for _, text := range matchTexts() {
		for _, chain := range []int{1, 2, 7, impl.MaxChain} {
			checkP7(t, text, chain)
		}
	}
	for i, text := range smallTexts(72, 3000, 60) {
		checkP7(t, text, 1+i%5)
	}
}

func checkBest(t *testing.T, text string, at, chain int) {
	t.Helper()
	length, dist := impl.BestMatch(text, at, chain)
	if wantLength, wantDist := slowBest(text, at, chain); length != wantLength || dist != wantDist {
		t.Fatalf("%q at %d, chain %d: %d %d, not %d %d", text, at, chain, length, dist, wantLength, wantDist)
	}
}

func TestBestMatchOfManyTexts(t *testing.T) {
	for i, text := range smallTexts(73, 1000, 60) {
		for at := -2; at <= len(text)+2; at++ {
			checkBest(t, text, at, 1+i%4)
			checkBest(t, text, at, impl.MaxChain)
		}
	}
	for _, text := range matchTexts() {
		for at := -1; at <= len(text)+1; at += 1 + len(text)/40 {
			checkBest(t, text, at, 1)
			checkBest(t, text, at, 9)
			checkBest(t, text, at, impl.MaxChain)
		}
		for at := len(text) - 5; at <= len(text)+1; at++ {
			checkBest(t, text, at, impl.MaxChain)
		}
	}
}

func TestBestMatch(t *testing.T) {
	long := strings.Repeat("a", 600)
	cases := []struct {
		name         string
		text         string
		at, chain    int
		length, dist int
	}{
		{"no text", "", 0, 4, 0, 0},
		{"one byte", "a", 0, 4, 0, 0},
		{"two bytes alike", "aa", 1, 4, 0, 0},
		{"three bytes alike", "aaa", 1, 4, 0, 0},
		{"four bytes alike", "aaaa", 1, 4, 3, 1},
		{"below the text", "aaaa", -1, 4, 0, 0},
		{"far below the text", "aaaa", math.MinInt, 4, 0, 0},
		{"the first place", "aaaa", 0, 4, 0, 0},
		{"two bytes left", "aaaaaa", 4, 4, 0, 0},
		{"three bytes left", "aaaaaa", 3, 4, 3, 1},
		{"the last place", "aaaaaa", 5, 4, 0, 0},
		{"the text's length", "aaaaaa", 6, 4, 0, 0},
		{"past the end", "aaaaaa", 7, 4, 0, 0},
		{"far past the end", "aaaaaa", math.MaxInt, 4, 0, 0},
		{"just MinLen", "abcxabcy", 4, 4, 3, 4},
		{"MinLen up to the end", "abcxabc", 4, 4, 3, 4},
		{"two bytes alike are none", "abxabyab", 3, 4, 0, 0},
		{"longer than its distance", "ababababx", 2, 4, 6, 2},
		{"up to the end", "abcdabcd", 4, 4, 4, 4},
		{"up to the end, over itself", "abcabcabca", 3, 4, 7, 3},
		{"the nearest of equal ones", "abcd1abcd2abcd3", 10, 4, 4, 5},
		{"the nearest of equal ones, chain 1", "abcd1abcd2abcd3", 10, 1, 4, 5},
		{"a longer one farther away", "abcde1abcd2abcde3", 11, 4, 5, 11},
		{"a longer one, not looked at", "abcde1abcd2abcde3", 11, 1, 4, 5},
		{"the longest behind the last one that is looked at", "abcde1abcd2abc3abcde4", 15, 2, 4, 9},
		{"the longest as the last one that is looked at", "abcde1abcd2abc3abcde4", 15, 3, 5, 15},
		{"others of two bytes alike do not count", "abcde1ab2ab3ab4abcde5", 15, 1, 5, 15},
		{"MaxLen", long[:1+258], 1, 4, 258, 1},
		{"one less than MaxLen", long[:1+257], 1, 4, 257, 1},
		{"it could go on behind MaxLen", long, 1, 4, 258, 1},
		{"MaxLen of the nearest", long, 300, 64, 258, 1},
		{"bytes that are no letters", "\x80\xff\x00\x80\xff\x00\x80", 3, 1, 4, 3},
		{"chain 0", "aaaa", 1, 0, 0, 0},
		{"chain below 0", "aaaa", 1, -1, 0, 0},
		{"the least chain", "aaaa", 1, math.MinInt, 0, 0},
		{"chain 1", "aaaa", 1, 1, 3, 1},
		{"chain MaxChain", "aaaa", 1, impl.MaxChain, 3, 1},
		{"chain one more", "aaaa", 1, impl.MaxChain + 1, 0, 0},
		{"the greatest chain", "aaaa", 1, math.MaxInt, 0, 0},
	}
	for _, c := range cases {
		if length, dist := impl.BestMatch(c.text, c.at, c.chain); length != c.length || dist != c.dist {
			t.Errorf("%s: %d %d, not %d %d", c.name, length, dist, c.length, c.dist)
		}
		checkBest(t, c.text, c.at, c.chain)
	}
}

// The longest stands behind so many others, so that each chain up to MaxChain has its edge.
func TestBestMatchOfEachChain(t *testing.T) {
	for others := range impl.MaxChain + 1 {
		text := "abcde1" + strings.Repeat("abc2", others) + "abcde3"
		at := len(text) - 6
		for chain := 1; chain <= impl.MaxChain; chain++ {
			length, dist := impl.BestMatch(text, at, chain)
			if chain <= others && (length != 3 || dist != 4) || chain > others && (length != 5 || dist != at) {
				t.Errorf("%d others, chain %d: %d %d", others, chain, length, dist)
			}
		}
	}
}

// MaxLen bytes farther away, and a nearer one that is just as long or one byte shorter.
func TestBestMatchOfLongOnes(t *testing.T) {
	r := rand.New(rand.NewSource(74))
	long := plainText(r, impl.MaxLen+20, 0, 250)
	for _, near := range []int{impl.MaxLen - 1, impl.MaxLen, impl.MaxLen + 1} {
		text := long + "\xfe" + long[:near] + "\xff" + long
		at := len(text) - len(long)
		want := near + 1
		if near < impl.MaxLen {
			want = at
		}
		if length, dist := impl.BestMatch(text, at, 2); length != impl.MaxLen || dist != want {
			t.Errorf("a near one of %d: %d %d, not %d", near, length, dist, want)
		}
	}
}

func TestBestMatchOfMaxData(t *testing.T) {
	r := rand.New(rand.NewSource(75))
	text := plainText(r, impl.MaxData-5, 0, 256)
	text += text[:5]
	if length, dist := impl.BestMatch(text, impl.MaxData-5, 1); length != 5 || dist != impl.MaxData-5 {
		t.Errorf("MaxData: %d %d", length, dist)
	}
	for _, at := range []int{0, 1, 5, impl.MaxData - 5} {
		if length, dist := impl.BestMatch(text+"a", at, 1); length != 0 || dist != 0 {
			t.Errorf("one more, at %d: %d %d", at, length, dist)
		}
		if length, dist := impl.BestMatch(strings.Repeat("a", impl.MaxData+1), at, 1); length != 0 || dist != 0 {
			t.Errorf("one more of one byte, at %d: %d %d", at, length, dist)
		}
	}
}

func TestSearchersRefuse(t *testing.T) {
	r := rand.New(rand.NewSource(76))
	most := wordText(r, impl.MaxData)
	cases := []struct {
		name  string
		text  string
		chain int
		ok    bool
	}{
		{"chain 0", "aaaaa", 0, false},
		{"chain 0 of no text", "", 0, false},
		{"chain below 0", "aaaaa", -1, false},
		{"the least chain", "aaaaa", math.MinInt, false},
		{"chain 1", "aaaaa", 1, true},
		{"chain MaxChain", "aaaaa", impl.MaxChain, true},
		{"chain one more", "aaaaa", impl.MaxChain + 1, false},
		{"chain one more of no text", "", impl.MaxChain + 1, false},
		{"the greatest chain", "aaaaa", math.MaxInt, false},
		{"MaxData", most, 1, true},
		{"one more", most + "a", 1, false},
		{"one more, chain MaxChain", most + "a", impl.MaxChain, false},
		{"many more", most + most, 1, false},
	}
	for _, c := range cases {
		for _, s := range searchers() {
			list, ok := s.tokens(c.text, c.chain)
			if ok != c.ok || (len(list) > 0) != c.ok {
				t.Errorf("%s, %s: %d tokens %v", s.name, c.name, len(list), ok)
			}
		}
	}
	for _, s := range searchers() {
		for _, chain := range []int{1, impl.MaxChain} {
			if list, ok := s.tokens("", chain); !ok || len(list) != 0 {
				t.Errorf("%s of no text: %v %v", s.name, list, ok)
			}
		}
	}
}

func TestGreedyAndLazyOfManyTexts(t *testing.T) {
	texts := append(smallTexts(77, 2000, 60), matchTexts()...)
	for _, text := range texts {
		for _, chain := range []int{1, 3, impl.MaxChain} {
			if list, ok := impl.Greedy(text, chain); !ok || !slices.Equal(list, slowTokens(text, chain, false)) {
				t.Fatalf("Greedy of %q, chain %d: %v %v", text, chain, list, ok)
			}
			if list, ok := impl.Lazy(text, chain); !ok || !slices.Equal(list, slowTokens(text, chain, true)) {
				t.Fatalf("Lazy of %q, chain %d: %v %v", text, chain, list, ok)
			}
		}
	}
}

// tokensOf puts bytes and repeats one behind another.
func tokensOf(parts ...any) []impl.Token {
	var list []impl.Token
	for _, part := range parts {
		switch part := part.(type) {
		case string:
			list = append(list, bytesOf(part)...)
		case impl.Token:
			list = append(list, part)
		}
	}
	return list
}

func TestGreedy(t *testing.T) {
	cases := []struct {
		text  string
		chain int
		list  []impl.Token
	}{
		{"a", 4, tokensOf("a")},
		{"abc", 4, tokensOf("abc")},
		{"aaa", 4, tokensOf("aaa")},
		{"aaaa", 4, tokensOf("a", repeatOf(3, 1))},
		{"abcabcabd", 4, tokensOf("abc", repeatOf(5, 3), "d")},
		{"abcde1abcd2abcde3", 4, tokensOf("abcde1", repeatOf(4, 6), "2", repeatOf(5, 11), "3")},
		{"abcde1abcd2abcde3", 1, tokensOf("abcde1", repeatOf(4, 6), "2", repeatOf(4, 5), "e3")},
		{strings.Repeat("z", 1+258+2), 1, tokensOf("z", repeatOf(258, 1), "zz")},
		{strings.Repeat("z", 1+258+3), 1, tokensOf("z", repeatOf(258, 1), repeatOf(3, 1))},
		{"abc1bcde2abcde3", 4, tokensOf("abc1bcde2", repeatOf(3, 9), "de3")},
	}
	for _, c := range cases {
		if list, ok := impl.Greedy(c.text, c.chain); !ok || !slices.Equal(list, c.list) {
			t.Errorf("%q, chain %d: %v %v", c.text, c.chain, list, ok)
		}
	}
}

func TestLazy(t *testing.T) {
	cases := []struct {
		name  string
		text  string
		chain int
		list  []impl.Token
	}{
		{"nothing", "", 4, nil},
		{"bytes alone", "abc", 4, tokensOf("abc")},
		{"the next one is longer", "abc1bcde2abcde3", 4, tokensOf("abc1bcde2a", repeatOf(4, 6), "3")},
		{"the next one is as long", "abc1bcd2abcd3", 4, tokensOf("abc1bcd2", repeatOf(3, 8), "d3")},
		{"the next one is shorter", "abcd1bcd2abcd3", 4, tokensOf("abcd1", repeatOf(3, 4), "2", repeatOf(4, 9), "3")},
		{"longer ones one behind another", "abc1bcde2cdefg3defghi4abcdefghi5", 4,
			tokensOf("abc1bcde2", repeatOf(3, 4), "fg3", repeatOf(4, 5), "hi4", "abc", repeatOf(6, 10), "5")},
		{"longer, and then as long", "abc1bcde2cdef3abcdef4", 4,
			tokensOf("abc1bcde2", repeatOf(3, 4), "f3a", repeatOf(4, 11), "f4")},
		{"the one behind the next one does not count", "abc1cdefgh2abcdefgh3", 4,
			tokensOf("abc1cdefgh2", repeatOf(3, 11), repeatOf(5, 9), "3")},
		{"longer ones behind a repeat", "abc1xyz2yzuvw3abcxyzuvw4", 4,
			tokensOf("abc1xyz2yzuvw3", repeatOf(3, 14), "x", repeatOf(5, 10), "4")},
		{"over itself", "aaaaaaa", 4, tokensOf("a", repeatOf(6, 1))},
	}
	for _, c := range cases {
		list, ok := impl.Lazy(c.text, c.chain)
		if !ok || !slices.Equal(list, c.list) {
			t.Errorf("%s: %v %v", c.name, list, ok)
		}
		if !slices.Equal(c.list, slowTokens(c.text, c.chain, true)) {
			t.Errorf("%s: the case is wrong", c.name)
		}
	}
}

// checkCheapest holds the tokens against each place's steps: none ahead of the one that was taken may cost as little in all.
func checkCheapest(t *testing.T, text string, chain int) {
	t.Helper()
	list, ok := impl.Cheapest(text, chain)
	costs := leastCosts(text, chain)
	if cost := slowTokensCost(list); !ok || cost != costs[len(text)] {
		t.Fatalf("%q, chain %d: %v %v costs %d, not %d", text, chain, list, ok, cost, costs[len(text)])
	}
	left := costsLeft(text, chain)
	at := 0
	for _, token := range list {
		for _, step := range stepsAt(text, at, chain) {
			if slowTokenCost(step)+left[at+max(1, step.Len)] > left[at] {
				continue
			}
			if step != token {
				t.Fatalf("%q, chain %d, at %d: %v, not %v", text, chain, at, token, step)
			}
			break
		}
		at += max(1, token.Len)
	}
	if at != len(text) {
		t.Fatalf("%q, chain %d: the tokens end at %d", text, chain, at)
	}
}

// costsLeft tells of each place what the cheapest way from it on costs.
func costsLeft(text string, chain int) []int {
	left := make([]int, len(text)+1)
	for at := len(text) - 1; at >= 0; at-- {
		left[at] = math.MaxInt
		for _, step := range stepsAt(text, at, chain) {
			left[at] = min(left[at], slowTokenCost(step)+left[at+max(1, step.Len)])
		}
	}
	return left
}

func TestCheapestOfEveryWay(t *testing.T) {
	for i, text := range smallTexts(78, 1500, 18) {
		chain := 1 + i%4
		list, ok := impl.Cheapest(text, chain)
		if want := leastWay(text, chain); !ok || !slices.Equal(list, want) {
			t.Fatalf("%q, chain %d: %v %v, not %v", text, chain, list, ok, want)
		}
	}
}

func TestCheapestOfManyTexts(t *testing.T) {
	for i, text := range smallTexts(79, 400, 150) {
		checkCheapest(t, text, 1+i%7)
	}
	for _, text := range matchTexts() {
		if len(text) <= 600 {
			checkCheapest(t, text, 5)
		}
	}
}

func TestCheapest(t *testing.T) {
	// Six bytes of the first part, eight of the second one; four of them are in both.
	both := "abcdef1cdefghij2"
	cases := []struct {
		name string
		text string
		list []impl.Token
	}{
		{"nothing", "", nil},
		{"one byte", "a", tokensOf("a")},
		{"three bytes", "aaa", tokensOf("aaa")},
		{"one repeat", "abcabc", tokensOf("abc", repeatOf(3, 3))},
		{"low bytes", "\x8f\x8f\x8f\x8f\x8f", tokensOf("\x8f", repeatOf(4, 1))},
		{"high bytes", "\x90\x90\x90\x90\x90", tokensOf("\x90", repeatOf(4, 1))},
		{"no extra bit up to 10", strings.Repeat("a", 11), tokensOf("a", repeatOf(10, 1))},
		{"an extra bit costs less than a byte", strings.Repeat("a", 12), tokensOf("a", repeatOf(11, 1))},
		{"as little with two repeats: the shorter", both + "abcdefghij3", tokensOf("abcdef1", repeatOf(4, 5), "ghij2", repeatOf(3, 16), repeatOf(7, 11), "3")},
		{"a shorter one costs less", "abcdef1efgh2abcdefgh3", tokensOf("abcdef1efgh2", repeatOf(4, 12), repeatOf(4, 9), "3")},
		{"the longest costs less", "abcdef1fg2abcdefg3", tokensOf("abcdef1fg2", repeatOf(6, 10), "g3")},
	}
	for _, c := range cases {
		if list, ok := impl.Cheapest(c.text, 4); !ok || !slices.Equal(list, c.list) {
			t.Errorf("%s: %v %v", c.name, list, ok)
		}
		if !slices.Equal(c.list, leastWay(c.text, 4)) {
			t.Errorf("%s: the case is wrong: %v", c.name, leastWay(c.text, 4))
		}
	}
}

// A repeat of four bytes from far away, or a byte and a repeat of three from near by: 12 bits and those of the distance, or the byte's and 12.
func TestCheapestOfByteOrRepeat(t *testing.T) {
	r := rand.New(rand.NewSource(80))
	cases := []struct {
		first  string
		dist   int
		isByte bool
	}{
		{"w", 512, false}, {"w", 513, true}, {"w", 1024, true}, {"w", 1025, true},
		{"\x8f", 512, false}, {"\x8f", 513, true},
		{"\x90", 513, false}, {"\x90", 1024, false}, {"\x90", 1025, true}, {"\x90", 2049, true},
		{"\xff", 1024, false}, {"\xff", 1025, true},
	}
	for _, c := range cases {
		between := plainText(r, c.dist-7, 0, 100)
		text := c.first + "xyz" + between + "xyz" + c.first + "xyz"
		want := tokensOf(c.first, "xyz", between, repeatOf(3, c.dist-4))
		if c.isByte {
			want = append(want, tokensOf(c.first, repeatOf(3, 4))...)
		} else {
			want = append(want, repeatOf(4, c.dist))
		}
		if list, ok := impl.Cheapest(text, 4); !ok || !slices.Equal(list, want) {
			t.Errorf("%q from %d: %v %v", c.first, c.dist, list[len(list)-3:], ok)
		}
	}
}

// Lengths that reach into dearer symbols, of a text that ends so that the rest is told by bytes or by a second repeat.
func TestCheapestOfLongRepeats(t *testing.T) {
	for size := 1; size <= 540; size += 1 + size/60 {
		checkCheapest(t, strings.Repeat("\xee", size), 1)
		checkCheapest(t, strings.Repeat("abcdefgh", size)[:size], 2)
	}
}

func TestTokensCost(t *testing.T) {
	cases := []struct {
		name string
		list []impl.Token
		cost int
	}{
		{"none", nil, 0},
		{"none at all", []impl.Token{}, 0},
		{"byte 0", tokensOf("\x00"), 8},
		{"byte 143", tokensOf("\x8f"), 8},
		{"byte 144", tokensOf("\x90"), 9},
		{"byte 255", tokensOf("\xff"), 9},
		{"the cheapest repeat", tokensOf(repeatOf(3, 1)), 12},
		{"ten bytes", tokensOf(repeatOf(10, 1)), 12},
		{"an extra bit of the length", tokensOf(repeatOf(11, 1)), 13},
		{"symbol 279", tokensOf(repeatOf(99, 1)), 16},
		{"symbol 279, its last length", tokensOf(repeatOf(114, 1)), 16},
		{"symbol 280", tokensOf(repeatOf(115, 1)), 17},
		{"symbol 280, its last length", tokensOf(repeatOf(130, 1)), 17},
		{"symbol 281", tokensOf(repeatOf(131, 1)), 18},
		{"symbol 284", tokensOf(repeatOf(257, 1)), 18},
		{"symbol 285", tokensOf(repeatOf(258, 1)), 13},
		{"an extra bit of the distance", tokensOf(repeatOf(3, 5)), 13},
		{"the last distance without", tokensOf(repeatOf(3, 4)), 12},
		{"the farthest", tokensOf(repeatOf(3, impl.MaxDist)), 25},
		{"the dearest", tokensOf(repeatOf(257, impl.MaxDist)), 31},
		{"several, though they reach ahead of the first", tokensOf(repeatOf(11, 5), "a\xff", repeatOf(3, 1)), 14 + 17 + 12},
	}
	for _, c := range cases {
		if cost, ok := impl.TokensCost(c.list); !ok || cost != c.cost {
			t.Errorf("%s: %d %v, not %d", c.name, cost, ok, c.cost)
		}
	}
}

func TestTokensCostOfEachSymbol(t *testing.T) {
	for lit := range 256 {
		costOfTokens(t, []impl.Token{{Lit: lit}})
	}
	for length := impl.MinLen; length <= impl.MaxLen; length++ {
		costOfTokens(t, []impl.Token{repeatOf(length, 1), repeatOf(length, impl.MaxDist)})
	}
	for _, row := range distTable {
		for _, dist := range []int{row.least, row.least + 1<<row.bits - 1} {
			costOfTokens(t, []impl.Token{repeatOf(3, dist), repeatOf(258, dist)})
		}
	}
	r := rand.New(rand.NewSource(81))
	for range 200 {
		costOfTokens(t, someTokens(r, r.Intn(40000), r.Intn(50)))
	}
}

func TestTokensCostOfWrongTokens(t *testing.T) {
	right := tokensOf("ab", repeatOf(3, 1), "c")
	for _, wrong := range wrongTokens() {
		for at := range len(right) + 1 {
			if cost, ok := impl.TokensCost(slices.Insert(slices.Clone(right), at, wrong)); ok || cost != 0 {
				t.Errorf("%v at %d: %d %v", wrong, at, cost, ok)
			}
		}
		if cost, ok := impl.TokensCost([]impl.Token{wrong}); ok || cost != 0 {
			t.Errorf("%v alone: %d %v", wrong, cost, ok)
		}
	}
}

// It is the tokens that are counted, not the bytes that they make.
func TestTokensCostOfMaxBytes(t *testing.T) {
	for _, token := range []impl.Token{{Lit: 97}, repeatOf(258, 1)} {
		list := slices.Repeat([]impl.Token{token}, impl.MaxBytes)
		if cost, ok := impl.TokensCost(list); !ok || cost != impl.MaxBytes*slowTokenCost(token) {
			t.Errorf("MaxBytes of %v: %d %v", token, cost, ok)
		}
		if cost, ok := impl.TokensCost(append(list, token)); ok || cost != 0 {
			t.Errorf("one more of %v: %d %v", token, cost, ok)
		}
		list[impl.MaxBytes-1].Lit = -1
		if cost, ok := impl.TokensCost(list); ok || cost != 0 {
			t.Errorf("MaxBytes of %v, the last one wrong: %d %v", token, cost, ok)
		}
	}
}

func TestSearchLeavesArgumentsAlone(t *testing.T) {
	all := tokensOf("abc", repeatOf(5, 2), "de")
	was := slices.Clone(all)
	for size := range len(all) + 1 {
		first, ok := impl.TokensCost(all[:size])
		second, again := impl.TokensCost(all[:size])
		if !ok || !again || first != second || !slices.Equal(all, was) {
			t.Errorf("%d tokens: %d %v, then %d %v; %v", size, first, ok, second, again, all)
		}
	}
	for _, s := range searchers() {
		first, _ := s.tokens("abcabcabcxabc", 4)
		want := slices.Clone(first)
		clear(first)
		if second, ok := s.tokens("abcabcabcxabc", 4); !ok || !slices.Equal(second, want) {
			t.Errorf("%s: %v, then %v %v", s.name, want, second, ok)
		}
	}
}
