package tests

import (
	"compress/flate"
	"fmt"
	"io"
	"math"
	"math/rand"
	"runtime"
	"slices"
	"strings"
	"sync"
	"testing"

	"loop.example/g00099/impl"
)

func deflated(t *testing.T, text string, level int) string {
	t.Helper()
	packed, ok := impl.Deflate(text, level)
	if !ok {
		t.Fatalf("level %d refuses %d bytes, %.40q", level, len(text), text)
	}
	return packed
}

func everyByteText() string {
	all := make([]byte, 256)
	for i := range all {
		all[i] = byte(i)
	}
	return string(all)
}

// mixedText has stretches of several kinds, so that what is best for one is not for another.
func mixedText(r *rand.Rand, stretches int) string {
	text := ""
	for range stretches {
		size := 20 + r.Intn(150)
		switch r.Intn(5) {
		case 0:
			text += plainText(r, size, 144, 256)
		case 1:
			text += fewBytes(r, size, 2+r.Intn(6))
		case 2:
			text += wordText(r, size)
		case 3:
			text += plainText(r, size, 97, 107+r.Intn(20))
		case 4:
			text += randomText(r, size)
		}
	}
	return text[:min(len(text), impl.MaxData)]
}

func mixedTexts(seed int64, count int) []string {
	r := rand.New(rand.NewSource(seed))
	texts := make([]string, count)
	for i := range texts {
		texts[i] = mixedText(r, 1+r.Intn(5))
	}
	return texts
}

// wideMixedTexts are of MaxData bytes.
func wideMixedTexts(seed int64, count int) []string {
	r := rand.New(rand.NewSource(seed))
	texts := make([]string, count)
	for i := range texts {
		for len(texts[i]) < impl.MaxData {
			texts[i] += mixedText(r, 20)
		}
		texts[i] = texts[i][:impl.MaxData]
	}
	return texts
}

// packTexts have repeats near and far, and none; they are empty, short, and of up to MaxData bytes.
func packTexts() []string {
	r := rand.New(rand.NewSource(111))
	far := "a stretch that comes again"
	texts := []string{
		everyByteText(), everyByteText() + everyByteText(), strings.Repeat(everyByteText(), 10),
		far + randomText(r, impl.MaxData-2*len(far)) + far,
		far + far + randomText(r, 50) + far,
		randomText(r, impl.MaxData), randomText(r, impl.MaxData-1),
	}
	for i := range 256 {
		texts = append(texts, string([]byte{byte(i)}))
	}
	return slices.Concat(texts, matchTexts(), smallTexts(112, 100, 120), mixedTexts(113, 40), wideMixedTexts(114, 3))
}

// cutsOf are all places at which a text of so many bytes can be cut, or, of a long one, those at its ends and some between.
func cutsOf(r *rand.Rand, size int) []int {
	var cuts []int
	for cut := range size {
		if size <= 300 || cut < 30 || cut >= size-30 || r.Intn(size) < 30 {
			cuts = append(cuts, cut)
		}
	}
	return cuts
}

// checkP9 wants the text again, of just these bytes, and of none that are cut.
func checkP9(t *testing.T, text, packed string, behind []string, cuts []int) {
	t.Helper()
	name := fmt.Sprintf("%d bytes, %.20q, packed as %.20q", len(text), text, packed)
	for _, more := range behind {
		for _, most := range []int{len(text), len(text) + 1, impl.MaxBytes} {
			made, took, code := impl.Inflate(packed+more, most)
			if made != text || took != len(packed) || code != 0 {
				t.Fatalf("%s, %d bytes behind, at most %d: %.20q, %d of %d taken, code %d", name, len(more), most, made, took, len(packed), code)
			}
		}
	}
	if len(text) > 0 {
		checkRefused(t, name+", one less", packed, len(text)-1, impl.InflateMore)
	}
	for _, cut := range cuts {
		checkRefused(t, fmt.Sprintf("%s, cut at %d", name, cut), packed[:cut], len(text), impl.InflateEnd)
	}
	if t.Failed() {
		t.FailNow()
	}
}

// checkOtherReader wants the text of a reader that is none of the program's kin.
func checkOtherReader(t *testing.T, text, packed string) {
	t.Helper()
	other, err := io.ReadAll(flate.NewReader(strings.NewReader(packed)))
	if err != nil || string(other) != text {
		t.Fatalf("another reader has %.40q, %v; want %.40q", other, err, text)
	}
}

func TestP9UnpackedToTheText(t *testing.T) {
	r := rand.New(rand.NewSource(115))
	for _, text := range packTexts() {
		for level := range impl.MaxLevel + 1 {
			packed := deflated(t, text, level)
			behind := []string{"", "\x00", "\xff\xff\xff", packed, randomText(r, 20)}
			checkP9(t, text, packed, behind, cutsOf(r, len(packed)))
			checkOtherReader(t, text, packed)
		}
	}
}

func TestP9CutAnywhere(t *testing.T) {
	for _, text := range wideMixedTexts(116, 1) {
		for level := range impl.MaxLevel + 1 {
			packed := deflated(t, text, level)
			for cut := range len(packed) {
				checkRefused(t, fmt.Sprintf("level %d, cut at %d", level, cut), packed[:cut], impl.MaxBytes, impl.InflateEnd)
			}
		}
	}
}

func TestDeflate(t *testing.T) {
	for _, c := range []struct {
		text  string
		level int
		want  string
	}{
		{"", 0, "\x01\x00\x00\xff\xff"},
		{"", 1, "\x03\x00"},
		{"", 2, "\x03\x00"},
		{"", 3, "\x03\x00"},
		{"abc", 0, "\x01\x03\x00\xfc\xffabc"},
		{"a", 1, "\x4b\x04\x00"},
		{"a", 2, "\x4b\x04\x00"},
		{"a", 3, "\x4b\x04\x00"},
		{strings.Repeat("a", 259), 1, textOfFigures(fixedFigures(tokensOf("a", repeatOf(258, 1)), true))},
		{strings.Repeat("a", 259), 3, textOfFigures(fixedFigures(tokensOf("a", repeatOf(258, 1)), true))},
	} {
		if packed, ok := impl.Deflate(c.text, c.level); !ok || packed != c.want {
			t.Errorf("%.20q by %d: %q, %v; want %q", c.text, c.level, packed, ok, c.want)
		}
	}
}

// The levels below the last one are a search and a block, no more.
func TestDeflateOfLowLevels(t *testing.T) {
	for _, text := range packTexts() {
		greedy, _ := impl.Greedy(text, 4)
		lazy, _ := impl.Lazy(text, 16)
		wants := [3]impl.Out{}
		wants[0], _ = impl.StoredBlock(impl.Out{}, text, true)
		wants[1], _ = impl.FixedBlock(impl.Out{}, greedy, true)
		wants[2], _ = impl.BestBlock(impl.Out{}, text, lazy, true)
		for level, want := range wants {
			if packed := deflated(t, text, level); packed != want.Text {
				t.Fatalf("%.40q by %d: %.40q, not %.40q", text, level, packed, want.Text)
			}
		}
	}
}

// chainText ends with five bytes that stand at its beginning; of the places with the same three bytes that one is the last of so many.
func chainText(r *rand.Rand, places int) string {
	text := "wordX" + plainText(r, 20, 0, 60)
	for i := range places - 1 {
		text += "word" + string([]byte{'a', byte(180 + i)})
	}
	return text + "wordX"
}

// Each level has its own chain: just as many places are looked at, and not one more.
func TestDeflateChains(t *testing.T) {
	r := rand.New(rand.NewSource(117))
	for _, c := range []struct {
		level, chain int
		tokens       func(string, int) ([]impl.Token, bool)
		figures      func(string, []impl.Token) string
	}{
		{1, 4, impl.Greedy, func(_ string, list []impl.Token) string { return fixedFigures(list, true) }},
		{2, 16, impl.Lazy, func(text string, list []impl.Token) string { return partBlocks(text, list, math.MaxInt) }},
		{3, 64, impl.Cheapest, cheapestFigures},
	} {
		for _, places := range []int{c.chain, c.chain + 1} {
			text := chainText(r, places)
			list, _ := c.tokens(text, c.chain)
			if reached := list[len(list)-1].Len == 5; reached != (places == c.chain) {
				t.Fatalf("level %d, %d places: the case is wrong: %v", c.level, places, list)
			}
			if packed := deflated(t, text, c.level); packed != textOfFigures(c.figures(text, list)) {
				t.Errorf("level %d, %d places: %q is not that of the chain %d", c.level, places, packed, c.chain)
			}
		}
	}
}

// partBlocks are the best blocks of each size tokens, the last one the last, in figures.
func partBlocks(text string, list []impl.Token, size int) string {
	figures, at := "", 0
	for {
		part := list[:min(size, len(list))]
		list = list[len(part):]
		more, ok := slowExpand(text[:at], part)
		if !ok {
			panic("tokens that are not right")
		}
		at += len(more)
		last := len(list) == 0
		figures += bestFigures(storedFigures(len(figures), more, last), fixedFigures(part, last), wovenFigures(part, last))
		if last {
			return figures
		}
	}
}

func bytesOfFigures(figures string) int { return (len(figures) + 7) / 8 }

// cheapestFigures is what the last level is to write of these tokens.
func cheapestFigures(text string, list []impl.Token) string {
	one, parts := partBlocks(text, list, math.MaxInt), partBlocks(text, list, 60)
	if bytesOfFigures(parts) < bytesOfFigures(one) {
		return parts
	}
	return one
}

// kindOfParts tells how the blocks of parts stand against the one block.
func kindOfParts(one, parts string) string {
	switch {
	case one == parts:
		return "alike"
	case bytesOfFigures(parts) < bytesOfFigures(one):
		return "parts"
	case bytesOfFigures(parts) > bytesOfFigures(one):
		return "one"
	case len(parts) < len(one):
		return "equal, fewer bits in parts"
	case len(parts) > len(one):
		return "equal, more bits in parts"
	}
	return "equal bits"
}

// checkLevel3 tells how the blocks of parts stand, and of how many tokens they are.
func checkLevel3(t *testing.T, text string) (string, int) {
	t.Helper()
	list, _ := impl.Cheapest(text, 64)
	one, parts := partBlocks(text, list, math.MaxInt), partBlocks(text, list, 60)
	kind := kindOfParts(one, parts)
	want, count := textOfFigures(one), 1
	if kind == "parts" {
		want, count = textOfFigures(parts), (len(list)+59)/60
	}
	if packed := deflated(t, text, 3); packed != want {
		t.Fatalf("%.40q, %d tokens, %s: %.40q, not %.40q", text, len(list), kind, packed, want)
	}
	if types, ok := impl.BlockTypes(want, len(text)); !ok || len(types) != count {
		t.Fatalf("%.40q, %d tokens, %s: types %v, %v", text, len(list), kind, types, ok)
	}
	return kind, len(list)
}

func TestDeflateOfParts(t *testing.T) {
	seen := map[string]int{}
	for _, text := range slices.Concat(packTexts(), mixedTexts(118, 900), wideMixedTexts(119, 20)) {
		kind, _ := checkLevel3(t, text)
		seen[kind]++
	}
	for kind, least := range map[string]int{"alike": 50, "parts": 100, "one": 100, "equal, fewer bits in parts": 5, "equal, more bits in parts": 5, "equal bits": 2} {
		if seen[kind] < least {
			t.Errorf("%s: seen %v", kind, seen)
		}
	}
}

// periodText has as many tokens as count: so many high bytes as ahead, and then repeats of all of them, 258 bytes each.
func periodText(r *rand.Rand, ahead, count int) string {
	stretch := plainText(r, ahead, 144, 256)
	size := ahead + 258*(count-ahead)
	return strings.Repeat(stretch, 1+size/ahead)[:size]
}

// checkParts wants so many tokens, and parts of these types; one type alone is of the one block.
func checkParts(t *testing.T, name, text string, count int, types []int) {
	t.Helper()
	kind, got := checkLevel3(t, text)
	seen, _ := impl.BlockTypes(deflated(t, text, 3), len(text))
	if got != count || (kind == "parts") != (len(types) > 1) || !slices.Equal(seen, types) {
		t.Errorf("%s: %s, %d tokens, types %v; want %d, %v", name, kind, got, seen, count, types)
	}
}

// Parts are shorter as soon as there are two: high bytes are best as they are, and a repeat is not.
func TestDeflateOfPartTokens(t *testing.T) {
	r := rand.New(rand.NewSource(120))
	for _, c := range []struct {
		ahead, count int
		types        []int
	}{
		{57, 59, []int{1}},
		{58, 60, []int{1}},
		{59, 60, []int{1}},
		{59, 61, []int{1}},
		{60, 61, []int{0, 1}},
		{60, 62, []int{0, 1}},
		{118, 119, []int{0, 1}},
		{119, 120, []int{0, 1}},
		{120, 121, []int{0, 0, 1}},
	} {
		checkParts(t, fmt.Sprintf("%d high bytes ahead", c.ahead), periodText(r, c.ahead, c.count), c.count, c.types)
	}
}

// lettersText has other letters in each part, so that each is best by codes of its own.
func lettersText(r *rand.Rand, size int) string {
	text := ""
	for i := 0; len(text) < size; i++ {
		text += plainText(r, 60, 8*i, 8*i+8)
	}
	return text[:size]
}

// Of one byte in the last part, of as many as there can be, and of one less than that.
func TestDeflateOfManyParts(t *testing.T) {
	r := rand.New(rand.NewSource(127))
	for _, parts := range []int{2, 3, 4, 10, 20, 31} {
		all := slices.Repeat([]int{2}, parts)
		checkParts(t, "a whole number of parts", lettersText(r, 60*parts), 60*parts, all)
		checkParts(t, "one token less", lettersText(r, 60*parts-1), 60*parts-1, all)
		checkParts(t, "one token more", lettersText(r, 60*parts+1), 60*parts+1, append(all, 1))
	}
}

// Lists without repeats, of as many tokens as bytes, around each multiple of PartTokens.
func TestDeflateOfMultiplesOfPartTokens(t *testing.T) {
	r := rand.New(rand.NewSource(121))
	for _, parts := range []int{1, 2, 3, 7, 20, 43} {
		for more := -1; more <= 1; more++ {
			for _, high := range []int{144, 256} {
				size := 60*parts + more
				text := plainText(r, size, 0, high)
				if _, count := checkLevel3(t, text); count != size {
					t.Fatalf("%d bytes: %d tokens", size, count)
				}
				// Of two kinds, so that parts may be shorter: up to the last part, and behind it.
				at := 60 * max(1, parts-1)
				text = plainText(r, at, 144, 256) + plainText(r, size, 60, 100)
				checkLevel3(t, text[:min(len(text), size)])
			}
		}
	}
}

// A part's block has just the bytes that its tokens make, of which there may be more than tokens.
func TestDeflateOfPartsAsTheyAre(t *testing.T) {
	r := rand.New(rand.NewSource(122))
	seen := 0
	for range 30 {
		ahead, between := plainText(r, 60, 144, 256), plainText(r, 60, 0, 144)
		size := 3 + r.Intn(2)
		at, to := r.Intn(60-size), 1+r.Intn(58)
		again := plainText(r, to, 144, 256) + ahead[at:at+size] + plainText(r, 59-to, 144, 256)
		text := ahead + between + again + strings.Repeat("a", 500)
		list, _ := impl.Cheapest(text, 64)
		// Where the bytes beside the repeat happen to go on as it does, the parts are others.
		if len(list) != 183 {
			continue
		}
		seen++
		checkParts(t, "a repeat in a part that is as it is", text, 183, []int{0, 1, 0, 1})
		if packed := deflated(t, text, 3); !strings.Contains(packed, ahead) || !strings.Contains(packed, again) {
			t.Errorf("the bytes of a part are not there: %q", packed)
		}
	}
	if seen < 20 {
		t.Errorf("seen %d", seen)
	}
}

func TestDeflateRefuses(t *testing.T) {
	r := rand.New(rand.NewSource(123))
	texts := []string{"", "a", strings.Repeat("a", impl.MaxData), randomText(r, impl.MaxData)}
	for _, text := range texts {
		for _, level := range []int{-1, impl.MaxLevel + 1, -2, 9, 256, math.MinInt, math.MaxInt} {
			if packed, ok := impl.Deflate(text, level); ok || packed != "" {
				t.Errorf("%d bytes by %d: %d bytes, %v", len(text), level, len(packed), ok)
			}
		}
	}
	for _, size := range []int{impl.MaxData + 1, impl.MaxData + 2, impl.MaxBytes, impl.MaxBytes + 1, 1 << 17} {
		for _, text := range []string{strings.Repeat("a", size), randomText(r, size)} {
			for level := -1; level <= impl.MaxLevel+1; level++ {
				if packed, ok := impl.Deflate(text, level); ok || packed != "" {
					t.Errorf("%d bytes by %d: %d bytes, %v", size, level, len(packed), ok)
				}
			}
			if packed, level, ok := impl.Shortest(text); ok || packed != "" || level != 0 {
				t.Errorf("Shortest of %d bytes: %d bytes, level %d, %v", size, len(packed), level, ok)
			}
		}
	}
	for _, text := range texts[2:] {
		for level := range impl.MaxLevel + 1 {
			checkP9(t, text, deflated(t, text, level), []string{""}, nil)
		}
		packed, _, ok := impl.Shortest(text)
		if !ok {
			t.Fatalf("Shortest refuses %d bytes", len(text))
		}
		checkP9(t, text, packed, []string{""}, nil)
	}
}

// checkShortest tells all levels that are as short as the shortest.
func checkShortest(t *testing.T, text string) []int {
	t.Helper()
	var packed []string
	for level := range 4 {
		packed = append(packed, deflated(t, text, level))
	}
	var short []int
	for level := range packed {
		if !slices.ContainsFunc(packed, func(other string) bool { return len(other) < len(packed[level]) }) {
			short = append(short, level)
		}
	}
	got, level, ok := impl.Shortest(text)
	if !ok || level != short[0] || got != packed[short[0]] {
		t.Fatalf("%.40q: level %d, %v, %d bytes; the shortest are %v, of %d bytes", text, level, ok, len(got), short, len(packed[short[0]]))
	}
	return short
}

func TestP9ShortestOfManyTexts(t *testing.T) {
	seen := map[string]int{}
	for _, text := range slices.Concat(packTexts(), mixedTexts(124, 800)) {
		seen[fmt.Sprint(checkShortest(t, text))]++
	}
	for _, short := range []string{"[0 1 2 3]", "[0 2 3]", "[1 2 3]", "[1 3]", "[2 3]", "[2]", "[3]"} {
		if seen[short] == 0 {
			t.Errorf("%s: seen %v", short, seen)
		}
	}
}

// nearAndFar is shorter by near repeats, which a search has that looks at few places; one that looks at more takes
// those that are far, as they are longer by a byte.
func nearAndFar() string {
	head, near, again := "", "", ""
	for i := range 5 {
		head += "abc" + string(rune('0'+i)) + string(rune('A'+i))
		near += "abc" + string(rune('k'+i))
		again += "abc" + string(rune('0'+i))
	}
	return head + strings.Repeat("z", 1030) + near + again
}

// evenText is as long by level 0 as by level 1: so many high bytes, which are longer by a bit there, make up for the head.
func evenText(r *rand.Rand, high int) string {
	return plainText(r, 40, 0, 144) + plainText(r, high, 144, 256)
}

func TestShortest(t *testing.T) {
	r := rand.New(rand.NewSource(125))
	for _, c := range []struct {
		name  string
		text  string
		short []int
	}{
		{"nothing", "", []int{1, 2, 3}},
		{"a byte", "a", []int{1, 2, 3}},
		{"every byte: the low ones by codes, the high ones as they are", everyByteText(), []int{3}},
		{"high bytes", plainText(r, 100, 144, 256), []int{0, 2, 3}},
		{"just too few high bytes", evenText(r, 22), []int{1, 2, 3}},
		{"the fewest of equal ones", evenText(r, 23), []int{0, 1, 2, 3}},
		{"the most of equal ones", evenText(r, 30), []int{0, 1, 2, 3}},
		{"just too many high bytes", evenText(r, 31), []int{0, 2, 3}},
		{"near repeats alone", nearAndFar(), []int{1}},
		{"few kinds of bytes without repeats", plainText(r, 500, 97, 107), []int{2, 3}},
		{"as they are, and repeats", periodText(r, 60, 61), []int{3}},
	} {
		if short := checkShortest(t, c.text); !slices.Equal(short, c.short) {
			t.Errorf("%s: the shortest are %v, not %v", c.name, short, c.short)
		}
	}
}

// Calls at the same time, and again, answer the same, and leave none running.
func TestShortestIsJoined(t *testing.T) {
	running := runtime.NumGoroutine()
	texts := mixedTexts(126, 40)
	wants := make([]string, len(texts))
	for i, text := range texts {
		wants[i], _, _ = impl.Shortest(text)
	}
	var all sync.WaitGroup
	for range 4 {
		for i, text := range texts {
			all.Go(func() {
				if got, _, ok := impl.Shortest(text); !ok || got != wants[i] {
					t.Errorf("%.40q: %.40q, %v; want %.40q", text, got, ok, wants[i])
				}
			})
		}
	}
	all.Wait()
	for tries := 0; runtime.NumGoroutine() > running; tries++ {
		if tries == 1000000 {
			t.Fatalf("%d are running, not %d", runtime.NumGoroutine(), running)
		}
		runtime.Gosched()
	}
}
