package tests

import (
	"bytes"
	"compress/zlib"
	"fmt"
	"io"
	"math"
	"math/rand"
	"slices"
	"strings"
	"testing"

	"loop.example/g00099/impl"
)

// zlibHeads are both bytes of the head, by level.
func zlibHeads() []string { return []string{"\x78\x01", "\x78\x5e", "\x78\x9c", "\x78\xda"} }

// sumText is the Adler of a text in four bytes, the highest first.
func sumText(text string) string {
	sum := slowAdlerMore(1, text)
	return string([]byte{byte(sum / 16777216), byte(sum / 65536 % 256), byte(sum / 256 % 256), byte(sum % 256)})
}

func storedText(text string) string { return textOfFigures(storedFigures(0, text, true)) }

// storedZlib is a right container of a text that is told as it is, which may be longer than ZlibOf takes.
func storedZlib(text string) string { return "\x78\x01" + storedText(text) + sumText(text) }

func zlibOf(t *testing.T, text string, level int) string {
	t.Helper()
	made, ok := impl.ZlibOf(text, level)
	if !ok {
		t.Fatalf("level %d refuses %d bytes, %.40q", level, len(text), text)
	}
	return made
}

func checkZlib(t *testing.T, name, text string, most int, want string) {
	t.Helper()
	if made, code := impl.ZlibRead(text, most); made != want || code != 0 {
		t.Errorf("%s, at most %d: %.40q of %d bytes, code %d; want %.40q", name, most, made, len(made), code, want)
	}
}

func checkNoZlib(t *testing.T, name, text string, most, want int) {
	t.Helper()
	if made, code := impl.ZlibRead(text, most); made != "" || code != want {
		t.Errorf("%s, at most %d: %.40q of %d bytes, code %d; want code %d", name, most, made, len(made), code, want)
	}
}

// checkCut wants ZlibSum of a container whose sum is not all there, unless so little is left that it is too short.
func checkCut(t *testing.T, name, text string, most int) {
	t.Helper()
	if len(text) < 6 {
		checkNoZlib(t, name, text, most, impl.ZlibShort)
		return
	}
	checkNoZlib(t, name, text, most, impl.ZlibSum)
}

// turnedAt is the text with some bits of one byte turned.
func turnedAt(text string, at int, turn byte) string {
	b := []byte(text)
	b[at] ^= turn
	return string(b)
}

// without is the text without one byte.
func without(text string, at int) string { return text[:at] + text[at+1:] }

// slowZlibRead goes through the checks one by one, as they are listed.
func slowZlibRead(text string, most int) (string, int) {
	if len(text) < 6 || len(text) > 12000 {
		return "", impl.ZlibShort
	}
	if len(headFaults(int(text[0]), int(text[1]))) > 0 {
		return "", impl.ZlibHead
	}
	made, took, _, code := slowInflate(text[2:], most)
	if code != 0 {
		return "", 10 + code
	}
	behind := text[2+took:]
	if len(behind) < 4 || behind[:4] != sumText(made) {
		return "", impl.ZlibSum
	}
	if len(behind) > 4 {
		return "", impl.ZlibRest
	}
	return made, 0
}

func headFaults(first, second int) []string {
	var faults []string
	for _, c := range []struct {
		name string
		met  bool
	}{
		{"lower four", first%16 != 8},
		{"upper four", first/16 > 7},
		{"multiple", (256*first+second)%31 != 0},
		{"bit 5", second/32%2 == 1},
	} {
		if c.met {
			faults = append(faults, c.name)
		}
	}
	return faults
}

// checkSlowZlib tells the code, so that a test can see that it came to all of them.
func checkSlowZlib(t *testing.T, text string, most int) int {
	t.Helper()
	made, code := impl.ZlibRead(text, most)
	if wantMade, want := slowZlibRead(text, most); made != wantMade || code != want {
		t.Fatalf("%.60q, at most %d: %.40q, code %d; want %.40q, code %d", text, most, made, code, wantMade, want)
	}
	return code
}

// checkP10 wants the text again of just these bytes.
func checkP10(t *testing.T, text, z string, turns []byte) {
	t.Helper()
	name := fmt.Sprintf("%d bytes, %.20q, as %.20q", len(text), text, z)
	if len(text) > 0 {
		checkNoZlib(t, name+", one less may come", z, len(text)-1, impl.ZlibBody+impl.InflateMore)
	}
	for at := len(z) - 4; at < len(z); at++ {
		for _, turn := range turns {
			checkNoZlib(t, fmt.Sprintf("%s, byte %d turned by %d", name, at, turn), turnedAt(z, at, turn), len(text), impl.ZlibSum)
		}
		checkNoZlib(t, fmt.Sprintf("%s, without byte %d", name, at), without(z, at), len(text), impl.ZlibSum)
		checkCut(t, fmt.Sprintf("%s, cut at %d", name, at), z[:at], len(text))
	}
	for _, more := range []string{"\x00", "\x01", "\xff", z[len(z)-1:], z[:1], z[len(z)-4:], z} {
		checkNoZlib(t, fmt.Sprintf("%s, %.5q behind", name, more), z+more, len(text), impl.ZlibRest)
	}
	// Behind all that was refused, so that nothing of that is left.
	for _, most := range []int{len(text), len(text) + 1, impl.MaxBytes} {
		checkZlib(t, name, z, most, text)
	}
	if t.Failed() {
		t.FailNow()
	}
}

func TestP10ReadAgain(t *testing.T) {
	for _, text := range packTexts() {
		for level := range impl.MaxLevel + 1 {
			checkP10(t, text, zlibOf(t, text, level), []byte{1, 128, 255})
		}
	}
}

func TestP10EachTurnOfTheSum(t *testing.T) {
	var turns []byte
	for turn := 1; turn < 256; turn++ {
		turns = append(turns, byte(turn))
	}
	texts := []string{"", "a", "\x00", "\xff", "Wikipedia", "abcabcabcabc", everyByteText(), strings.Repeat("\xf7", 300)}
	for _, text := range texts {
		for level := range impl.MaxLevel + 1 {
			checkP10(t, text, zlibOf(t, text, level), turns)
		}
	}
}

// One byte more or less, wherever it is.
func TestP10OneByteMoreOrLess(t *testing.T) {
	r := rand.New(rand.NewSource(131))
	for _, text := range append(smallTexts(132, 40, 60), "", "a", "abc", everyByteText()) {
		for level := range impl.MaxLevel + 1 {
			z := zlibOf(t, text, level)
			for at := range len(z) + 1 {
				for _, b := range []byte{0, 255, byte(r.Intn(256)), z[min(at, len(z)-1)]} {
					if checkSlowZlib(t, z[:at]+string([]byte{b})+z[at:], impl.MaxBytes) == 0 {
						t.Fatalf("%q by %d: read with %d put in at %d", text, level, b, at)
					}
				}
				if at < len(z) && checkSlowZlib(t, without(z, at), impl.MaxBytes) == 0 {
					t.Fatalf("%q by %d: read without byte %d", text, level, at)
				}
			}
		}
	}
}

func TestP10OfAnotherReader(t *testing.T) {
	for _, text := range packTexts() {
		for level := range impl.MaxLevel + 1 {
			other, err := zlib.NewReader(strings.NewReader(zlibOf(t, text, level)))
			if err != nil {
				t.Fatalf("%.40q by %d: another reader refuses the head: %v", text, level, err)
			}
			made, err := io.ReadAll(other)
			if err != nil || string(made) != text {
				t.Fatalf("%.40q by %d: another reader has %.40q, %v", text, level, made, err)
			}
		}
	}
}

// What another writer made, of more bytes than ZlibOf takes, too.
func TestZlibReadOfAnotherWriter(t *testing.T) {
	r := rand.New(rand.NewSource(133))
	texts := []string{"", "a", strings.Repeat("a", 12000), wordText(r, 9000), randomText(r, 5000), fewBytes(r, 12000, 5), grownText(r, 11000)}
	for _, text := range append(texts, smallTexts(134, 40, 200)...) {
		for level := -2; level <= 9; level++ {
			var packed bytes.Buffer
			w, err := zlib.NewWriterLevel(&packed, level)
			if err != nil {
				t.Fatal(err)
			}
			io.WriteString(w, text)
			w.Close()
			z := packed.String()
			if len(z) > impl.MaxBytes {
				checkNoZlib(t, "too long", z, len(text), impl.ZlibShort)
				continue
			}
			checkZlib(t, fmt.Sprintf("%.20q by %d", text, level), z, len(text), text)
			checkNoZlib(t, fmt.Sprintf("%.20q by %d, one more", text, level), z+"\x00", len(text), impl.ZlibRest)
		}
	}
}

func TestZlibOf(t *testing.T) {
	for _, c := range []struct {
		text  string
		level int
		want  string
	}{
		{"", 0, "\x78\x01\x01\x00\x00\xff\xff\x00\x00\x00\x01"},
		{"", 1, "\x78\x5e\x03\x00\x00\x00\x00\x01"},
		{"", 2, "\x78\x9c\x03\x00\x00\x00\x00\x01"},
		{"", 3, "\x78\xda\x03\x00\x00\x00\x00\x01"},
		{"a", 1, "\x78\x5e\x4b\x04\x00\x00\x62\x00\x62"},
		{"a", 2, "\x78\x9c\x4b\x04\x00\x00\x62\x00\x62"},
		{"a", 3, "\x78\xda\x4b\x04\x00\x00\x62\x00\x62"},
		{"abc", 0, "\x78\x01\x01\x03\x00\xfc\xffabc\x02\x4d\x01\x27"},
		{"Wikipedia", 0, "\x78\x01\x01\x09\x00\xf6\xffWikipedia\x11\xe6\x03\x98"},
	} {
		if made, ok := impl.ZlibOf(c.text, c.level); !ok || made != c.want {
			t.Errorf("%q by %d: %q, %v; want %q", c.text, c.level, made, ok, c.want)
		}
	}
}

// The head of the level, what Deflate makes, the sum of the text itself, and no more.
func TestZlibOfManyTexts(t *testing.T) {
	high := 0
	for _, text := range packTexts() {
		for level, head := range zlibHeads() {
			want := head + deflated(t, text, level) + sumText(text)
			if z := zlibOf(t, text, level); z != want {
				t.Fatalf("%.40q by %d: %d bytes, %.40q; want %d, %.40q", text, level, len(z), z, len(want), want)
			}
		}
		if sumText(text)[0] >= 128 {
			high++
		}
	}
	if high < 5 {
		t.Errorf("%d sums have the highest bit", high)
	}
}

// The head again, by its rule: of the numbers with these three bits the least that is a multiple.
func TestZlibOfHeads(t *testing.T) {
	for level, head := range zlibHeads() {
		for _, text := range []string{"", "a", everyByteText()} {
			if z := zlibOf(t, text, level); z[:2] != head {
				t.Errorf("level %d: head %q, not %q", level, z[:2], head)
			}
		}
		number := 256*int(head[0]) + int(head[1])
		least := 120*256 + 64*level
		for least%31 != 0 {
			least++
		}
		if number != least || number/64%4 != level || number/32%2 != 0 {
			t.Errorf("level %d: the head is wrong: %d, not %d", level, number, least)
		}
	}
}

func TestZlibOfRefuses(t *testing.T) {
	r := rand.New(rand.NewSource(135))
	texts := []string{"", "a", strings.Repeat("a", impl.MaxData), randomText(r, impl.MaxData)}
	for _, text := range texts {
		for level := range impl.MaxLevel + 1 {
			checkP10(t, text, zlibOf(t, text, level), []byte{1})
		}
		for _, level := range []int{-1, impl.MaxLevel + 1, -2, 9, 256, math.MinInt, math.MaxInt} {
			if made, ok := impl.ZlibOf(text, level); ok || made != "" {
				t.Errorf("%d bytes by %d: %d bytes, %v", len(text), level, len(made), ok)
			}
		}
	}
	for _, size := range []int{impl.MaxData + 1, impl.MaxData + 2, impl.MaxBytes, impl.MaxBytes + 1, 1 << 17} {
		for _, text := range []string{strings.Repeat("a", size), randomText(r, size)} {
			for level := -1; level <= impl.MaxLevel+1; level++ {
				if made, ok := impl.ZlibOf(text, level); ok || made != "" {
					t.Errorf("%d bytes by %d: %d bytes, %v", size, level, len(made), ok)
				}
			}
		}
	}
}

func TestZlibReadShort(t *testing.T) {
	r := rand.New(rand.NewSource(136))
	for size := range 6 {
		texts := []string{
			storedZlib("abc")[:size], zlibOf(t, "a", 1)[:size], zlibOf(t, "", 3)[:size], "\x78\x9c\x00\x00\x00\x01"[:size],
			strings.Repeat("\x00", size), strings.Repeat("\xff", size), "\x78\x02\x07\x07\x07"[:size], "\x78\x01\x07\x07\x07"[:size],
		}
		for range 200 {
			texts = append(texts, randomText(r, size))
		}
		for _, text := range texts {
			for _, most := range []int{0, 10, impl.MaxBytes, -1, impl.MaxBytes + 1, math.MinInt, math.MaxInt} {
				checkNoZlib(t, fmt.Sprintf("%q", text), text, most, impl.ZlibShort)
			}
		}
	}
}

// Six and seven bytes are looked at, though no container has fewer than eight.
func TestZlibReadOfFewBytes(t *testing.T) {
	for _, c := range []struct {
		name, text string
		most       int
		code       int
	}{
		{"a wrong head", "\x78\x02\x03\x00\x00\x01", 10, impl.ZlibHead},
		{"noughts", "\x00\x00\x00\x00\x00\x00", 10, impl.ZlibHead},
		{"a wrong most", "\x78\x01\x03\x00\x00\x01", -1, 11},
		{"cut", "\x78\x01\x01\x00\x00\xff", 10, 12},
		{"type 3", "\x78\x01\x07\x00\x00\x01", 10, 13},
		{"the sum alone", "\x78\x01\x00\x00\x00\x01", 10, 12},
		{"two bytes of a sum", "\x78\x01\x03\x00\x00\x01", 10, impl.ZlibSum},
		{"two bytes of a sum, the first ones", "\x78\x01\x03\x00\x00\x00", 10, impl.ZlibSum},
		{"one byte of a sum", "\x78\x5e\x4b\x04\x00\x00", 10, impl.ZlibSum},
		{"three bytes of a sum", "\x78\x01\x03\x00\x00\x00\x01", 10, impl.ZlibSum},
		{"three bytes of a sum, the first ones", "\x78\x01\x03\x00\x00\x00\x00", 10, impl.ZlibSum},
	} {
		checkNoZlib(t, c.name, c.text, c.most, c.code)
		checkSlowZlib(t, c.text, c.most)
	}
	checkZlib(t, "eight bytes", "\x78\x01\x03\x00\x00\x00\x00\x01", 0, "")
	r := rand.New(rand.NewSource(137))
	for _, size := range []int{6, 7, 8} {
		for i := range 3000 {
			checkSlowZlib(t, zlibHeads()[i%4]+randomText(r, size-2), 10)
		}
	}
}

func TestZlibReadUpToMaxBytes(t *testing.T) {
	r := rand.New(rand.NewSource(138))
	const size = impl.MaxBytes - 11
	text := randomText(r, size+1)
	full, less, more := storedZlib(text[:size]), storedZlib(text[:size-1]), storedZlib(text)
	if len(full) != impl.MaxBytes || len(more) != impl.MaxBytes+1 {
		t.Fatalf("the case is wrong: %d, %d", len(full), len(more))
	}
	checkZlib(t, "MaxBytes", full, size, text[:size])
	checkZlib(t, "MaxBytes", full, impl.MaxBytes, text[:size])
	checkZlib(t, "one less", less, size-1, text[:size-1])
	checkNoZlib(t, "MaxBytes, one too many", full, size-1, impl.ZlibBody+impl.InflateMore)
	checkNoZlib(t, "MaxBytes, a wrong sum", turnedAt(full, len(full)-1, 1), size, impl.ZlibSum)
	checkNoZlib(t, "MaxBytes, with a byte behind", less+"x", size, impl.ZlibRest)
	for name, long := range map[string]string{
		"right":            more,
		"a byte behind":    full + "x",
		"a wrong head":     "\x78\x02" + more[2:],
		"a wrong body":     "\x78\x01\x07" + more[3:],
		"a wrong sum":      turnedAt(more, len(more)-1, 1),
		"a short body":     zlibOf(t, "a", 1) + strings.Repeat("\x00", impl.MaxBytes-8),
		"noughts":          strings.Repeat("\x00", impl.MaxBytes+1),
		"very long":        strings.Repeat(more, 20),
		"very long, wrong": strings.Repeat("\xff", 1<<17),
	} {
		for _, most := range []int{0, impl.MaxBytes, -1, impl.MaxBytes + 1} {
			checkNoZlib(t, "too long: "+name, long, most, impl.ZlibShort)
		}
	}
}

// A few bytes make as many as there may be.
func TestZlibReadMakesMaxBytes(t *testing.T) {
	list := bytesOf("a")
	for made := 1; made+258 <= impl.MaxBytes; made += 258 {
		list = append(list, repeatOf(258, 1))
	}
	tail := bytesOf(strings.Repeat("a", (impl.MaxBytes-1)%258))
	for more := range 2 {
		all := slices.Concat(list, tail, bytesOf(strings.Repeat("a", more)))
		text := strings.Repeat("a", impl.MaxBytes+more)
		z := "\x78\x9c" + textOfFigures(fixedFigures(all, true)) + sumText(text)
		if more > 0 {
			checkNoZlib(t, "one more", z, impl.MaxBytes, impl.ZlibBody+impl.InflateMore)
			continue
		}
		checkZlib(t, "as many", z, impl.MaxBytes, text)
		checkNoZlib(t, "as many, one less may come", z, impl.MaxBytes-1, impl.ZlibBody+impl.InflateMore)
	}
}

// Each head there can be: wrong ones by each fault alone, and by each several at once.
func TestZlibReadHeads(t *testing.T) {
	seen := map[string]int{}
	tail := storedText("abc") + sumText("abc")
	spoilt := []struct {
		text string
		most int
		code int
	}{
		{tail, 3, 0},
		{tail, -1, 11},
		{tail, 2, 18},
		{"\x07" + tail[1:], 3, 13},
		{turnedAt(tail, len(tail)-1, 1), 3, impl.ZlibSum},
		{tail[:len(tail)-1], 3, impl.ZlibSum},
		{tail + "x", 3, impl.ZlibRest},
	}
	for first := range 256 {
		for second := range 256 {
			head, faults := string([]byte{byte(first), byte(second)}), headFaults(first, second)
			seen[strings.Join(faults, ", ")]++
			for _, c := range spoilt {
				switch {
				case len(faults) > 0:
					checkNoZlib(t, fmt.Sprintf("head %q", head), head+c.text, c.most, impl.ZlibHead)
				case c.code > 0:
					checkNoZlib(t, fmt.Sprintf("head %q", head), head+c.text, c.most, c.code)
				default:
					checkZlib(t, fmt.Sprintf("head %q", head), head+c.text, c.most, "abc")
				}
			}
		}
		if t.Failed() {
			t.FailNow()
		}
	}
	if len(seen) != 16 {
		t.Errorf("not each kind of head was seen: %v", seen)
	}
}

// Some heads of each kind, in figures.
func TestZlibReadHeadsInFigures(t *testing.T) {
	tail := "\x4b\x04\x00\x00\x62\x00\x62"
	for _, head := range []string{"\x78\x01", "\x78\x5e", "\x78\x9c", "\x78\xda", "\x08\x1d", "\x18\x19", "\x28\x15", "\x38\x11", "\x48\x0d", "\x58\x09", "\x68\x05", "\x68\x81"} {
		checkZlib(t, fmt.Sprintf("%q", head), head+tail, 1, "a")
	}
	for _, c := range []struct{ head, faults string }{
		{"\x77\x09", "lower four"},
		{"\x79\x18", "lower four"},
		{"\x70\x03", "lower four"},
		{"\x7f\xc1", "lower four"},
		{"\x00\x00", "lower four"},
		{"\x88\x1c", "upper four"},
		{"\xf8\x00", "upper four"},
		{"\x78\x00", "multiple"},
		{"\x78\x02", "multiple"},
		{"\x78\x20", "bit 5"},
		{"\x78\xf9", "bit 5"},
		{"\x87\x05", "lower four, upper four"},
		{"\x77\x00", "lower four, multiple"},
		{"\x77\x28", "lower four, bit 5"},
		{"\x88\x00", "upper four, multiple"},
		{"\x88\x3b", "upper four, bit 5"},
		{"\x78\x21", "multiple, bit 5"},
		{"\x01\x78", "lower four, multiple, bit 5"},
		{"\xff\xff", "lower four, upper four, multiple, bit 5"},
	} {
		if faults := strings.Join(headFaults(int(c.head[0]), int(c.head[1])), ", "); faults != c.faults {
			t.Fatalf("%q: the case is wrong: %s, not %s", c.head, faults, c.faults)
		}
		checkNoZlib(t, fmt.Sprintf("%q: %s", c.head, c.faults), c.head+tail, 1, impl.ZlibHead)
	}
}

// wrongBody is a packed text that has a code, with whatever behind it; so is what it makes up to there.
type wrongBody struct {
	name, packed, made string
	most, code         int
}

func wrongBodies() []wrongBody {
	single := wovenHead(lengthsWith(257, 256, 1), []int{0}, true)
	ab := blockHead(1, true) + fixedText(bytesOf("ab"))
	return []wrongBody{
		{"most is below 0", storedText("abc"), "abc", -1, impl.InflateLong},
		{"most is more than MaxBytes", storedText("abc"), "abc", impl.MaxBytes + 1, impl.InflateLong},
		{"most is the least number", storedText("abc"), "abc", math.MinInt, impl.InflateLong},
		{"most is the greatest number", storedText("abc"), "abc", math.MaxInt, impl.InflateLong},
		{"no last block", "\x00\x03\x00\xfc\xffabc\x00\x10\x27\xef\xd8", "abc", impl.MaxBytes, impl.InflateEnd},
		{"bytes that are not there", "\x01\x10\x27\xef\xd8abc", "abc", impl.MaxBytes, impl.InflateEnd},
		{"type 3", "\x07", "", 10, impl.InflateType},
		{"type 3 behind a block", "\x00\x03\x00\xfc\xffabc\x07", "abc", 10, impl.InflateType},
		{"numbers that do not fit", "\x01\x03\x00\x03\x00", "", 10, impl.InflateStored},
		{"a third code that is empty", textOfFigures(blockHead(2, true), sizesText(257, 1, 19), thirdText(make([]int, 19), 19)), "", 10, impl.InflateCodes},
		{"a number of lengths", textOfFigures(blockHead(2, true), sizesText(288, 1, 19)), "", 10, impl.InflateCodes},
		{"no code begins so", textOfFigures(single, "1"), "", 10, impl.InflateSymbol},
		{"symbol 286", textOfFigures(ab, symbolText(fixedFirst(), 286)), "ab", 10, impl.InflateSymbol},
		{"a distance too far", textOfFigures(ab, fixedText([]impl.Token{repeatOf(3, 3)}), fixedEnd()), "ab", 10, impl.InflateFar},
		{"one byte too many", storedText("abc"), "abc", 2, impl.InflateMore},
		{"a repeat too many", textOfFigures(ab, fixedText([]impl.Token{repeatOf(3, 2)}), fixedEnd()), "ababa", 4, impl.InflateMore},
		{"none may come", textOfFigures(ab, fixedEnd()), "ab", 0, impl.InflateMore},
	}
}

// Ahead of the sum, whether it is right or not, and of what stands behind it.
func TestZlibReadBody(t *testing.T) {
	seen := map[int]bool{}
	for _, c := range wrongBodies() {
		seen[c.code] = true
		for _, behind := range []string{sumText(c.made), sumText(""), "abcd", sumText(c.made) + "more", "abcdmore", sumText(c.made)[:3] + "abc"} {
			for _, head := range append(zlibHeads(), "\x08\x1d") {
				checkNoZlib(t, fmt.Sprintf("%s, %q behind", c.name, behind), head+c.packed+behind, c.most, impl.ZlibBody+c.code)
			}
		}
	}
	if len(seen) != 8 {
		t.Errorf("not each code was seen: %v", seen)
	}
	for cut := 6; cut < len(storedZlib("abcdefgh"))-4; cut++ {
		checkNoZlib(t, fmt.Sprintf("cut at %d", cut), storedZlib("abcdefgh")[:cut], 8, impl.ZlibBody+impl.InflateEnd)
	}
}

// A body that is cut goes on into the sum, and there may be a right end.
func TestZlibReadBodyGoesOn(t *testing.T) {
	body := "\x01\x07\x00\xf8\xffabc"
	z := "\x78\x01" + body + sumText("abc")
	checkNoZlib(t, "no sum behind it", z, 7, impl.ZlibSum)
	made := "abc" + sumText("abc")
	checkZlib(t, "another sum behind it", z+sumText(made), 7, made)
	checkNoZlib(t, "more than may come", z+sumText(made), 6, impl.ZlibBody+impl.InflateMore)
}

func TestZlibReadSum(t *testing.T) {
	for _, text := range []string{"", "a", "abc", "Wikipedia", everyByteText(), strings.Repeat("\xff", 600)} {
		sum := sumText(text)
		bodies := []string{storedText(text), textOfFigures(fixedFigures(bytesOf(text), true)), textOfFigures(wovenFigures(bytesOf(text), true))}
		for _, body := range bodies {
			z := "\x78\x9c" + body
			checkZlib(t, "the sum", z+sum, len(text), text)
			for count := range 4 {
				for _, behind := range []string{sum[:count], sum[4-count:], strings.Repeat("\x00", count), "\xff\xff\xff"[:count]} {
					checkCut(t, fmt.Sprintf("%q behind %.20q", behind, text), z+behind, len(text))
				}
			}
			for _, wrong := range wrongSums(text) {
				if wrong == sum {
					continue
				}
				for _, more := range []string{"", "x", "\x00\x00", sum, sum[:3]} {
					checkNoZlib(t, fmt.Sprintf("%q behind %.20q", wrong+more, text), z+wrong+more, len(text), impl.ZlibSum)
				}
			}
		}
	}
}

// wrongSums are such as are made by another order, of another text, or by another rule.
func wrongSums(text string) []string {
	sum := sumText(text)
	back := []byte(sum)
	slices.Reverse(back)
	crc := slowCrcMore(0, text)
	list := []string{
		string(back), sum[2:] + sum[:2], "\x00" + sum[:3], sum[1:] + "\x00", "\x00\x00\x00\x00", "\xff\xff\xff\xff", "abcd",
		sumText(text + "\x00"), sumText("\x00" + text), sumText(text + "a"),
		string([]byte{byte(crc >> 24), byte(crc >> 16), byte(crc >> 8), byte(crc)}),
	}
	if text != "" {
		list = append(list, sumText(text[1:]), sumText(text[:len(text)-1]), sumText(""))
	}
	return list
}

// Halves that are 65521 more are the same modulo it, but they are not the sum.
func TestZlibReadSumOfGreatHalves(t *testing.T) {
	checkNoZlib(t, "a lower half of 65522", "\x78\x01\x03\x00\x00\x00\xff\xf2", 0, impl.ZlibSum)
	checkNoZlib(t, "an upper half of 65521", "\x78\x01\x03\x00\xff\xf1\x00\x01", 0, impl.ZlibSum)
	checkNoZlib(t, "both", "\x78\x01\x03\x00\xff\xf1\xff\xf2", 0, impl.ZlibSum)
}

// zeroSumText has the Adler 0: its bytes come to 65520, and noughts ahead of them move the upper half on by one each.
func zeroSumText(t *testing.T) string {
	t.Helper()
	for ahead := range 257 {
		text := strings.Repeat("\xff", ahead) + "\x00" + strings.Repeat("\xff", 256-ahead) + "\xf0"
		noughts := (65521 - int(slowAdlerMore(1, text)>>16)) % 65521
		if noughts+len(text) <= impl.MaxData {
			return strings.Repeat("\x00", noughts) + text
		}
	}
	t.Fatal("no such text")
	return ""
}

// Where the sum is 0, none is not the same as it.
func TestZlibReadSumOfZero(t *testing.T) {
	text := zeroSumText(t)
	for level := range impl.MaxLevel + 1 {
		z := zlibOf(t, text, level)
		if z[len(z)-4:] != "\x00\x00\x00\x00" {
			t.Fatalf("the case is wrong: %q", z[len(z)-4:])
		}
		checkP10(t, text, z, []byte{1, 128, 255})
	}
}

func TestZlibReadRest(t *testing.T) {
	r := rand.New(rand.NewSource(139))
	for _, text := range []string{"", "a", "abc", everyByteText()} {
		for level := range impl.MaxLevel + 1 {
			z := zlibOf(t, text, level)
			for b := range 256 {
				checkNoZlib(t, fmt.Sprintf("%d behind", b), z+string([]byte{byte(b)}), len(text), impl.ZlibRest)
			}
			for _, size := range []int{2, 3, 4, 5, 8, 100, impl.MaxBytes - len(z)} {
				more := randomText(r, size)
				checkNoZlib(t, fmt.Sprintf("%d bytes behind", size), z+more, len(text), impl.ZlibRest)
				checkNoZlib(t, fmt.Sprintf("%d bytes behind a wrong sum", size), turnedAt(z, len(z)-1, 3)+more, len(text), impl.ZlibSum)
			}
			checkNoZlib(t, "one byte more than MaxBytes", z+randomText(r, impl.MaxBytes-len(z)+1), len(text), impl.ZlibShort)
			// The sum is right further on, but it is the first four bytes that count.
			body := z[:len(z)-4]
			checkNoZlib(t, "a byte ahead of the sum", body+"x"+sumText(text), len(text), impl.ZlibSum)
			checkNoZlib(t, "four bytes ahead of the sum", body+"xxxx"+sumText(text), len(text), impl.ZlibSum)
		}
	}
}

// zlibCase is a container with faults of several kinds, of which each may be there or not.
type zlibCase struct {
	long, head, sum, rest bool
	body                  wrongBody
}

func (c zlibCase) text() string {
	text := "\x78\x9c"
	if c.head {
		text = "\x78\x9d"
	}
	text += c.body.packed
	if c.sum {
		text += "abcd"
	} else {
		text += sumText(c.body.made)
	}
	if c.rest {
		text += "rest"
	}
	if c.long {
		text += strings.Repeat("\x00", impl.MaxBytes+1-len(text))
	}
	return text
}

func (c zlibCase) code() int {
	switch {
	case c.long:
		return impl.ZlibShort
	case c.head:
		return impl.ZlibHead
	case c.body.code > 0:
		return impl.ZlibBody + c.body.code
	case c.sum:
		return impl.ZlibSum
	case c.rest:
		return impl.ZlibRest
	}
	return 0
}

// Wherever two checks would speak, the first that is listed does.
func TestZlibReadOrder(t *testing.T) {
	right := wrongBody{name: "right", packed: storedText("abc"), made: "abc", most: 3}
	for _, body := range append(wrongBodies(), right) {
		for faults := range 16 {
			c := zlibCase{long: faults&1 > 0, head: faults&2 > 0, sum: faults&4 > 0, rest: faults&8 > 0, body: body}
			name := fmt.Sprintf("%s, long %v, head %v, sum %v, rest %v", body.name, c.long, c.head, c.sum, c.rest)
			if c.code() == 0 {
				checkZlib(t, name, c.text(), body.most, "abc")
				continue
			}
			checkNoZlib(t, name, c.text(), body.most, c.code())
			checkSlowZlib(t, c.text(), body.most)
		}
	}
}

// Bodies of several blocks, whose last byte may be begun only.
func TestZlibReadOfManyBlocks(t *testing.T) {
	r := rand.New(rand.NewSource(140))
	for range 300 {
		p := somePacked(r, 6)
		z := zlibHeads()[r.Intn(4)] + p.text() + sumText(p.made)
		checkP10(t, p.made, z, []byte{1, 255})
	}
}

func TestZlibReadOfSpoiltTexts(t *testing.T) {
	r := rand.New(rand.NewSource(141))
	seen := map[int]int{}
	for range 3000 {
		p := somePacked(r, 4)
		head, sum := zlibHeads()[r.Intn(4)], sumText(p.made)
		for _, text := range []string{
			spoilt(r, head+p.text()+sum),
			head + spoilt(r, p.text()) + sum,
			head + p.text() + spoilt(r, sum),
			head + p.text() + sum + randomText(r, r.Intn(3)),
		} {
			seen[checkSlowZlib(t, text, impl.MaxBytes)]++
			seen[checkSlowZlib(t, text, r.Intn(len(p.made)+2))]++
			seen[checkSlowZlib(t, text, -r.Intn(2))]++
		}
	}
	for code := range 19 {
		if (code <= 4 || code >= 11) && seen[code] == 0 {
			t.Errorf("no text has the code %d: %v", code, seen)
		}
	}
}

func TestZlibReadOfAnyTexts(t *testing.T) {
	r := rand.New(rand.NewSource(142))
	for range 20000 {
		text := randomText(r, r.Intn(40))
		checkSlowZlib(t, text, r.Intn(30))
		checkSlowZlib(t, zlibHeads()[r.Intn(4)]+text, r.Intn(30))
	}
}
