package tests

import (
	"bytes"
	"encoding/base64"
	"encoding/binary"
	"encoding/hex"
	"fmt"
	"hash/crc32"
	"image"
	"image/color"
	"image/png"
	"math/rand"
	"regexp"
	"runtime"
	"slices"
	"strings"
	"sync"
	"testing"
	"unsafe"

	"loop.example/g00099/impl"
)

func signText() string { return string([]byte{137, 80, 78, 71, 13, 10, 26, 10}) }

func wordOf(n uint32) string { return string(binary.BigEndian.AppendUint32(nil, n)) }

// fileOf lays chunks one behind the other, whatever they are.
func fileOf(list ...impl.Chunk) string {
	text := signText()
	for _, c := range list {
		text += chunkText(c.Name, c.Data)
	}
	return text
}

func slowNameOk(name string) bool {
	return regexp.MustCompile(`\A[A-Za-z][A-Za-z][A-Z][A-Za-z]\z`).MatchString(name)
}

// slowChunks takes one chunk after another from the front of the text.
func slowChunks(text string) ([]impl.Chunk, int) {
	rest, ok := strings.CutPrefix(text, signText())
	if !ok || len(text) > 12000 {
		return nil, impl.ChunkSign
	}
	var list []impl.Chunk
	for rest != "" {
		if len(list) == 40 {
			return nil, impl.ChunkMany
		}
		if len(rest) < 12 {
			return nil, impl.ChunkShort
		}
		size := int64(binary.BigEndian.Uint32([]byte(rest[:4])))
		if 12+size > int64(len(rest)) {
			return nil, impl.ChunkShort
		}
		body, behind := rest[4:8+size], rest[8+size:]
		if !slowNameOk(body[:4]) {
			return nil, impl.ChunkName
		}
		if wordOf(crc32.ChecksumIEEE([]byte(body))) != behind[:4] {
			return nil, impl.ChunkSum
		}
		list = append(list, impl.Chunk{Name: body[:4], Data: body[4:]})
		rest = behind[4:]
	}
	return list, 0
}

func chunksText(t *testing.T, list []impl.Chunk) string {
	t.Helper()
	text, ok := impl.ChunksText(list)
	if !ok {
		t.Fatalf("%d chunks are refused: %.60q", len(list), list)
	}
	return text
}

func checkChunksText(t *testing.T, name string, list []impl.Chunk, want string) {
	t.Helper()
	if text, ok := impl.ChunksText(list); text != want || !ok {
		t.Errorf("%s: %.60q of %d bytes, %v; want %.60q of %d bytes", name, text, len(text), ok, want, len(want))
	}
}

func checkNoChunksText(t *testing.T, name string, list []impl.Chunk) {
	t.Helper()
	if text, ok := impl.ChunksText(list); text != "" || ok {
		t.Errorf("%s: %.60q of %d bytes, %v; want a refusal", name, text, len(text), ok)
	}
}

func checkChunks(t *testing.T, name, text string, want []impl.Chunk) {
	t.Helper()
	if list, code := impl.ReadChunks(text); !slices.Equal(list, want) || code != 0 {
		t.Errorf("%s: %d chunks, %.60q, code %d; want %d chunks, %.60q", name, len(list), list, code, len(want), want)
	}
}

func checkNoChunks(t *testing.T, name, text string, want int) {
	t.Helper()
	if list, code := impl.ReadChunks(text); len(list) != 0 || code != want {
		t.Errorf("%s: %d chunks, %.60q, code %d; want code %d", name, len(list), list, code, want)
	}
}

// checkSlowChunks tells the code, so that a test can see that it came to all of them.
func checkSlowChunks(t *testing.T, text string) int {
	t.Helper()
	list, code := impl.ReadChunks(text)
	if want, wantCode := slowChunks(text); !slices.Equal(list, want) || code != wantCode {
		t.Fatalf("%.80q: %.60q, code %d; want %.60q, code %d", text, list, code, want, wantCode)
	}
	return code
}

func someName(r *rand.Rand) string {
	name := make([]byte, 4)
	for i := range name {
		name[i] = "Aa"[r.Intn(2)] + byte(r.Intn(26))
	}
	name[2] = 'A' + byte(r.Intn(26))
	return string(name)
}

func someChunks(r *rand.Rand, count, most int) []impl.Chunk {
	list := make([]impl.Chunk, count)
	for i := range list {
		list[i] = impl.Chunk{Name: someName(r), Data: randomText(r, r.Intn(most+1))}
	}
	return list
}

// sameChunks is a list of one chunk, again and again.
func sameChunks(count int, name, data string) []impl.Chunk {
	return slices.Repeat([]impl.Chunk{{Name: name, Data: data}}, count)
}

// hugeList has chunks of each kind of Data, and just as many bytes as a file may have.
func hugeList(r *rand.Rand, count int) []impl.Chunk {
	list := make([]impl.Chunk, count)
	left := 12000 - 8 - 12*count
	for i := range list {
		size := left / (count - i)
		list[i] = impl.Chunk{Name: someName(r), Data: randomText(r, size)}
		left -= size
	}
	return list
}

func namesToAsk() []string {
	return []string{"IHDR", "PLTE", "tEXt", "abCd", "ABCd", "zzZZ", "aAAa", "ZZZz"}
}

func checkName(t *testing.T, name string, ok bool) {
	t.Helper()
	needless := ok && name[0] >= 'a'
	safe := ok && name[3] >= 'a'
	if impl.NameOk(name) != ok || impl.Needless(name) != needless || impl.SafeToCopy(name) != safe {
		t.Errorf("%q: NameOk %v, Needless %v, SafeToCopy %v; want %v, %v, %v",
			name, impl.NameOk(name), impl.Needless(name), impl.SafeToCopy(name), ok, needless, safe)
	}
}

func TestNamesInFigures(t *testing.T) {
	for _, c := range []struct {
		name               string
		ok, needless, safe bool
	}{
		{"IHDR", true, false, false},
		{"PLTE", true, false, false},
		{"IDAT", true, false, false},
		{"IEND", true, false, false},
		{"tRNS", true, true, false},
		{"bKGD", true, true, false},
		{"tEXt", true, true, true},
		{"pHYs", true, true, true},
		{"IHDr", true, false, true},
		{"AAAA", true, false, false},
		{"ZZZZ", true, false, false},
		{"aaAa", true, true, true},
		{"zzZz", true, true, true},
		{"IhDR", true, false, false},
		{"IHdR", false, false, false},
		{"text", false, false, false},
		{"tEX1", false, false, false},
		{"1EXt", false, false, false},
		{"", false, false, false},
		{"tEX", false, false, false},
		{"tEXtt", false, false, false},
		{" tEXt", false, false, false},
		{"tEXt\x00", false, false, false},
		{"tEXttEXt", false, false, false},
		{"\xc3\x89XT", false, false, false},
		{"t\xc3\x89t", false, false, false},
	} {
		if impl.NameOk(c.name) != c.ok || impl.Needless(c.name) != c.needless || impl.SafeToCopy(c.name) != c.safe {
			t.Errorf("%q: NameOk %v, Needless %v, SafeToCopy %v; want %v, %v, %v",
				c.name, impl.NameOk(c.name), impl.Needless(c.name), impl.SafeToCopy(c.name), c.ok, c.needless, c.safe)
		}
	}
}

func TestNamesByByte(t *testing.T) {
	for _, name := range namesToAsk() {
		for at := range 4 {
			for b := range 256 {
				ok := b >= 'A' && b <= 'Z' || b >= 'a' && b <= 'z' && at != 2
				checkName(t, name[:at]+string([]byte{byte(b)})+name[at+1:], ok)
			}
		}
	}
}

// Bytes beside those that are right, at all four places at once.
func TestNamesOfEdges(t *testing.T) {
	edges := "@AZ[`az{m0 \x00\x7f\xc1\xe1\xff"
	for i := range len(edges) * len(edges) * len(edges) * len(edges) {
		name := make([]byte, 4)
		for at := range name {
			name[at] = edges[i%len(edges)]
			i /= len(edges)
		}
		checkName(t, string(name), slowNameOk(string(name)))
	}
}

func TestNamesOfOtherLengths(t *testing.T) {
	for _, name := range namesToAsk() {
		all := name + name + name
		for size := range len(all) + 1 {
			checkName(t, all[:size], size == 4)
		}
		for at := range 4 {
			checkName(t, without(name, at), false)
			checkName(t, name[:at]+"A"+name[at:], false)
		}
	}
	checkName(t, strings.Repeat("A", 100000), false)
}

// knownFile is a picture of one pixel that was written elsewhere, and its chunks.
func knownFile(t *testing.T) (string, []impl.Chunk) {
	t.Helper()
	file, err := base64.StdEncoding.DecodeString("iVBORw0KGgoAAAANSUhEUgAAAAEAAAABCAYAAAAfFcSJAAAADUlEQVR42mNkYPhfDwAChwGA60e6kgAAAABJRU5ErkJggg==")
	if err != nil {
		t.Fatal(err)
	}
	return string(file), []impl.Chunk{
		{Name: "IHDR", Data: "\x00\x00\x00\x01\x00\x00\x00\x01\x08\x06\x00\x00\x00"},
		{Name: "IDAT", Data: "\x78\xda\x63\x64\x60\xf8\x5f\x0f\x00\x02\x87\x01\x80"},
		{Name: "IEND", Data: ""},
	}
}

func TestChunksTextInFigures(t *testing.T) {
	end := "0000000049454e44ae426082"
	for _, c := range []struct {
		want string
		list []impl.Chunk
	}{
		{"", nil},
		{"", []impl.Chunk{}},
		{end, []impl.Chunk{{Name: "IEND"}}},
		{end + end, []impl.Chunk{{Name: "IEND"}, {Name: "IEND"}}},
		{"0000000467414d410000b18f0bfc6105", []impl.Chunk{{Name: "gAMA", Data: "\x00\x00\xb1\x8f"}}},
		{"000000017352474200aece1ce9" + end, []impl.Chunk{{Name: "sRGB", Data: "\x00"}, {Name: "IEND"}}},
		{end + "000000017352474200aece1ce9", []impl.Chunk{{Name: "IEND"}, {Name: "sRGB", Data: "\x00"}}},
		{"0000000d4948445200000001000000010806000000" + "1f15c489", []impl.Chunk{{Name: "IHDR", Data: "\x00\x00\x00\x01\x00\x00\x00\x01\x08\x06\x00\x00\x00"}}},
	} {
		want, err := hex.DecodeString("89504e470d0a1a0a" + c.want)
		if err != nil {
			t.Fatal(err)
		}
		checkChunksText(t, c.want, c.list, string(want))
		checkChunks(t, c.want, string(want), c.list)
	}
	file, list := knownFile(t)
	checkChunksText(t, "a picture of one pixel", list, file)
	checkChunks(t, "a picture of one pixel", file, list)
}

// Each of the four bytes of a length that a file can have, beside sums of another making.
func TestChunksTextLengths(t *testing.T) {
	r := rand.New(rand.NewSource(191))
	for _, size := range []int{0, 1, 2, 3, 4, 5, 127, 128, 254, 255, 256, 257, 511, 512, 1000, 4095, 4096, 8191, 8192, 11979, 11980} {
		for _, name := range namesToAsk() {
			data := randomText(r, size)
			text := chunksText(t, []impl.Chunk{{Name: name, Data: data}})
			if len(text) != 20+size || text[8:12] != "\x00\x00"+string([]byte{byte(size / 256), byte(size % 256)}) {
				t.Fatalf("%d bytes of Data: %d bytes, length %q", size, len(text), text[8:12])
			}
			if text[12:16] != name || text[16:16+size] != data || text[16+size:] != wordOf(crc32.ChecksumIEEE([]byte(name+data))) {
				t.Fatalf("%d bytes of Data, %q: %.60q", size, name, text)
			}
		}
	}
}

func TestChunksTextMany(t *testing.T) {
	r := rand.New(rand.NewSource(192))
	for count := range 41 {
		list := someChunks(r, count, 100)
		checkChunksText(t, fmt.Sprintf("%d chunks", count), list, fileOf(list...))
	}
	for _, count := range []int{41, 42, 80, 81, 1000} {
		checkNoChunksText(t, fmt.Sprintf("%d chunks", count), sameChunks(count, "IDAT", ""))
		checkNoChunksText(t, fmt.Sprintf("%d chunks with Data", count), someChunks(r, count, 5))
	}
}

func TestChunksTextNames(t *testing.T) {
	wrong := []string{"", "I", "IDA", "IDATA", "IDaT", "idat", "ID T", "ID\x00T", "1DAT", "IDA2", "I\xffAT", "IDAT\x00", "@DAT", "I[AT", "ID`T", "IDA{", strings.Repeat("A", 1000)}
	for _, name := range wrong {
		for _, count := range []int{1, 2, 3, 39, 40} {
			for _, at := range []int{0, 1, count / 2, count - 2, count - 1} {
				if at < 0 || at >= count {
					continue
				}
				list := sameChunks(count, "IDAT", "abc")
				list[at].Name = name
				checkNoChunksText(t, fmt.Sprintf("%.20q at %d of %d", name, at, count), list)
			}
		}
	}
}

func TestChunksTextBytes(t *testing.T) {
	r := rand.New(rand.NewSource(193))
	for _, count := range []int{1, 2, 3, 7, 39, 40} {
		list := hugeList(r, count)
		text := fileOf(list...)
		if len(text) != impl.MaxBytes {
			t.Fatalf("%d chunks have %d bytes", count, len(text))
		}
		checkChunksText(t, fmt.Sprintf("%d chunks of all bytes", count), list, text)
		for at := range list {
			more := slices.Clone(list)
			more[at].Data += "a"
			checkNoChunksText(t, fmt.Sprintf("one byte more at %d of %d", at, count), more)
			less := slices.Clone(list)
			less[at].Data = less[at].Data[1:]
			checkChunksText(t, fmt.Sprintf("one byte less at %d of %d", at, count), less, fileOf(less...))
		}
	}
	// Where all Data is in one chunk, whether the first, a later or the last one.
	for _, count := range []int{2, 3, 40} {
		for _, at := range []int{0, 1, count / 2, count - 1} {
			list := sameChunks(count, "IDAT", "")
			list[at].Data = strings.Repeat("x", 12000-8-12*count)
			checkChunksText(t, fmt.Sprintf("all at %d of %d", at, count), list, fileOf(list...))
			list[at].Data += "x"
			checkNoChunksText(t, fmt.Sprintf("one more at %d of %d", at, count), list)
		}
	}
	// A chunk without Data has 12 bytes too.
	for _, size := range []int{11968, 11969, 11979, 11980} {
		list := []impl.Chunk{{Name: "IDAT", Data: strings.Repeat("x", size)}, {Name: "IEND"}}
		if size == 11968 {
			checkChunksText(t, "an end that has room", list, fileOf(list...))
			continue
		}
		checkNoChunksText(t, fmt.Sprintf("an end that has no room behind %d bytes", size), list)
	}
	for _, size := range []int{12000, 65536, 1 << 20, 1 << 24} {
		checkNoChunksText(t, fmt.Sprintf("%d bytes", size), []impl.Chunk{{Name: "IDAT", Data: strings.Repeat("x", size)}})
		checkNoChunksText(t, fmt.Sprintf("%d bytes, again and again", size), sameChunks(40, "IDAT", strings.Repeat("x", size)))
	}
}

// placesOf tells of each place of a file whether it is of a Name or of Data.
func placesOf(list []impl.Chunk) []bool {
	named := make([]bool, 8)
	for _, c := range list {
		named = slices.Concat(named, make([]bool, 4), slices.Repeat([]bool{true}, 4+len(c.Data)), make([]bool, 4))
	}
	return named
}

// checkTurned wants other chunks or none of a file with one byte turned, and none where it is of a Name or of Data.
func checkTurned(t *testing.T, list []impl.Chunk, text string, at int, turn byte, named bool) {
	t.Helper()
	got, code := impl.ReadChunks(turnedAt(text, at, turn))
	switch {
	case code == 0 && slices.Equal(got, list):
		t.Fatalf("%.60q, byte %d turned by %d: the same chunks", text, at, turn)
	case code != 0 && len(got) != 0:
		t.Fatalf("%.60q, byte %d turned by %d: %.60q beside code %d", text, at, turn, got, code)
	case named && code != impl.ChunkName && code != impl.ChunkSum:
		t.Fatalf("%.60q, byte %d turned by %d: %.60q, code %d", text, at, turn, got, code)
	case at < 8 && code != impl.ChunkSign:
		t.Fatalf("%.60q, byte %d turned by %d: code %d", text, at, turn, code)
	}
}

// checkP16 wants the chunks again, and none of them of what is turned.
func checkP16(t *testing.T, list []impl.Chunk, turns []byte, places []int) {
	t.Helper()
	text := chunksText(t, list)
	if text != fileOf(list...) {
		t.Fatalf("%.60q: %.60q", list, text)
	}
	checkChunks(t, fmt.Sprintf("%d chunks", len(list)), text, list)
	named := placesOf(list)
	if len(named) != len(text) {
		t.Fatalf("%d places of %d bytes", len(named), len(text))
	}
	for _, at := range places {
		for _, turn := range turns {
			checkTurned(t, list, text, at, turn, named[at])
		}
	}
}

func everyTurn() []byte {
	turns := make([]byte, 255)
	for i := range turns {
		turns[i] = byte(i + 1)
	}
	return turns
}

func everyPlace(size int) []int {
	places := make([]int, size)
	for i := range places {
		places[i] = i
	}
	return places
}

func TestP16EveryTurn(t *testing.T) {
	r := rand.New(rand.NewSource(194))
	_, known := knownFile(t)
	for _, list := range [][]impl.Chunk{
		nil,
		{{Name: "IEND"}},
		{{Name: "IDAT", Data: "a"}},
		{{Name: "IEND"}, {Name: "IEND"}},
		{{Name: "tEXt", Data: "\x00\x00\x00\x00"}, {Name: "IEND"}},
		{{Name: "abCd", Data: chunkText("tEXt", "ab")}, {Name: "IEND"}},
		known,
		someChunks(r, 4, 20),
		someChunks(r, 6, 6),
		someChunks(r, 40, 3),
	} {
		checkP16(t, list, everyTurn(), everyPlace(len(fileOf(list...))))
	}
}

func TestP16EveryPlaceOfLongData(t *testing.T) {
	r := rand.New(rand.NewSource(208))
	list := hugeList(r, 3)
	text, named := chunksText(t, list), placesOf(list)
	for at := range len(text) {
		checkTurned(t, list, text, at, byte(1+r.Intn(255)), named[at])
	}
}

func TestP16ManyLengths(t *testing.T) {
	r := rand.New(rand.NewSource(195))
	turns := []byte{1, 32, 128, 255}
	for count := range 41 {
		for _, most := range []int{0, 1, 10} {
			list := someChunks(r, count, most)
			checkP16(t, list, turns, everyPlace(len(fileOf(list...))))
		}
	}
	checkP16(t, []impl.Chunk{{Name: "IDAT", Data: everyByteText()}}, turns, everyPlace(20+256))
	for _, count := range []int{1, 2, 3, 20, 39, 40} {
		list := hugeList(r, count)
		places := everyPlace(60)
		for range 60 {
			places = append(places, r.Intn(12000))
		}
		for at := 12000 - 20; at < 12000; at++ {
			places = append(places, at)
		}
		checkP16(t, list, turns, places)
	}
	for range 300 {
		checkP16(t, someChunks(r, r.Intn(41), r.Intn(250)), nil, nil)
	}
}

// otherChunks is a file in which a length can be turned so that other chunks are read:
// bytes of the first one's Data are chosen so that its sum is that of the last of the others.
func otherChunks() (string, []impl.Chunk, []impl.Chunk) {
	data := "a secrP^\x98\x87\"\xc1\x00\x00\x00\x05moRe inw\x0b\x9c\x97\xe1#\x00\x00\x00\x00enDs"
	one := []impl.Chunk{{Name: "noTe", Data: data}}
	three := []impl.Chunk{{Name: "noTe", Data: "a secrP^"}, {Name: "moRe", Data: " inw\x0b"}, {Name: "enDs"}}
	return fileOf(one...), one, three
}

func TestP16OtherChunks(t *testing.T) {
	text, one, three := otherChunks()
	checkChunks(t, "one chunk", text, one)
	checkChunksText(t, "one chunk", one, text)
	turned := turnedAt(text, 11, 37^8)
	checkChunks(t, "its length turned", turned, three)
	checkChunksText(t, "three chunks", three, turned)
	checkP16(t, one, everyTurn(), everyPlace(len(text)))
	checkP16(t, three, everyTurn(), everyPlace(len(text)))
}

func TestReadChunksSign(t *testing.T) {
	sign := signText()
	checkChunks(t, "the sign alone", sign, nil)
	for size := range len(sign) {
		checkNoChunks(t, fmt.Sprintf("%d bytes of the sign", size), sign[:size], impl.ChunkSign)
		checkNoChunks(t, fmt.Sprintf("%d bytes of the sign, and a chunk", size), sign[:size]+chunkText("IEND", ""), impl.ChunkSign)
		checkNoChunks(t, fmt.Sprintf("the sign without byte %d", size), without(sign, size), impl.ChunkSign)
		for _, turn := range everyTurn() {
			turned := turnedAt(sign, size, turn)
			checkNoChunks(t, fmt.Sprintf("byte %d turned by %d", size, turn), turned, impl.ChunkSign)
			checkNoChunks(t, fmt.Sprintf("byte %d turned by %d, and a chunk", size, turn), turned+chunkText("IEND", ""), impl.ChunkSign)
		}
	}
	for _, text := range []string{"x", "\x00", "PNG", " " + sign, "\x00" + sign, strings.ToLower(sign), "%PDF-1.4\n", chunkText("IEND", ""), chunkText("IEND", "") + sign, strings.Repeat("\x00", 8), strings.Repeat("\x89", 100)} {
		checkNoChunks(t, fmt.Sprintf("%.20q", text), text, impl.ChunkSign)
	}
	checkNoChunks(t, "the sign twice", sign+sign, impl.ChunkShort)
	checkNoChunks(t, "the sign ahead of a chunk again", sign+sign+chunkText("IEND", ""), impl.ChunkShort)
}

func TestReadChunksLong(t *testing.T) {
	r := rand.New(rand.NewSource(196))
	for _, count := range []int{1, 2, 3, 39, 40} {
		list := hugeList(r, count)
		text := fileOf(list...)
		checkChunks(t, fmt.Sprintf("%d chunks of all bytes", count), text, list)
		checkNoChunks(t, fmt.Sprintf("%d chunks and one byte", count), text+"\x00", impl.ChunkSign)
		for at := range list {
			more := slices.Clone(list)
			more[at].Data += "a"
			checkNoChunks(t, fmt.Sprintf("one byte more at %d of %d", at, count), fileOf(more...), impl.ChunkSign)
		}
	}
	zeros := signText() + strings.Repeat("\x00", 12000-8)
	checkNoChunks(t, "as many bytes 0 as there may be", zeros, impl.ChunkName)
	checkNoChunks(t, "one byte 0 more", zeros+"\x00", impl.ChunkSign)
	for _, size := range []int{12001, 12002, 20000, 65536, 1 << 20} {
		checkNoChunks(t, fmt.Sprintf("%d bytes of one chunk", size), fileOf(impl.Chunk{Name: "IDAT", Data: strings.Repeat("x", size-20)}), impl.ChunkSign)
	}
}

// checkCuts wants the chunks that are whole, where nothing is left of another, and the code of one that is cut.
func checkCuts(t *testing.T, list []impl.Chunk) {
	t.Helper()
	text := fileOf(list...)
	whole, border := 0, 8
	for size := range len(text) + 1 {
		if whole < len(list) && size == border+12+len(list[whole].Data) {
			whole, border = whole+1, size
		}
		name := fmt.Sprintf("%.30q cut to %d of %d bytes", list, size, len(text))
		switch {
		case size < 8:
			checkNoChunks(t, name, text[:size], impl.ChunkSign)
		case size == border && whole <= 40:
			checkChunks(t, name, text[:size], list[:whole])
		case whole >= 40:
			checkNoChunks(t, name, text[:size], impl.ChunkMany)
		default:
			checkNoChunks(t, name, text[:size], impl.ChunkShort)
		}
	}
	if whole != len(list) {
		t.Fatalf("%d chunks of %d", whole, len(list))
	}
}

func TestReadChunksCut(t *testing.T) {
	r := rand.New(rand.NewSource(197))
	_, known := knownFile(t)
	_, one, three := otherChunks()
	for _, list := range [][]impl.Chunk{nil, known, one, three} {
		checkCuts(t, list)
	}
	for _, count := range []int{1, 2, 3, 4, 20, 39, 40, 41, 42} {
		for _, most := range []int{0, 1, 30} {
			checkCuts(t, someChunks(r, count, most))
		}
	}
	// Cut in a chunk whose Name or sum is not right either: what is not all there is told first.
	for _, chunk := range []string{chunkText("te t", "abc"), turnedAt(chunkText("tEXt", "abc"), 14, 1), chunkText("\x00\x00\x00\x00", "")} {
		for size := 1; size < len(chunk); size++ {
			checkNoChunks(t, fmt.Sprintf("%q cut to %d", chunk, size), signText()+chunk[:size], impl.ChunkShort)
			checkNoChunks(t, fmt.Sprintf("a chunk, and %q cut to %d", chunk, size), fileOf(known...)+chunk[:size], impl.ChunkShort)
		}
	}
}

// Bytes behind a right file are a chunk that is not all there, whatever they are.
func TestReadChunksRest(t *testing.T) {
	file, _ := knownFile(t)
	for b := range 256 {
		for size := 1; size < 12; size++ {
			checkNoChunks(t, fmt.Sprintf("%d times %d", size, b), file+strings.Repeat(string([]byte{byte(b)}), size), impl.ChunkShort)
		}
	}
	for _, count := range []int{0, 1, 39} {
		checkNoChunks(t, fmt.Sprintf("a byte behind %d chunks", count), fileOf(sameChunks(count, "IDAT", "abc")...)+"a", impl.ChunkShort)
	}
}

// lengthAt is a file of these chunks in which one length is told as another.
func lengthAt(list []impl.Chunk, at int, size uint32) string {
	ahead := len(fileOf(list[:at]...))
	text := fileOf(list...)
	return text[:ahead] + wordOf(size) + text[ahead+4:]
}

func TestReadChunksLengths(t *testing.T) {
	r := rand.New(rand.NewSource(198))
	_, known := knownFile(t)
	for _, list := range [][]impl.Chunk{{{Name: "IEND"}}, {{Name: "tEXt", Data: "abc"}}, known, someChunks(r, 5, 300), someChunks(r, 40, 40), hugeList(r, 3)} {
		for at, c := range list {
			name := fmt.Sprintf("chunk %d of %d", at, len(list))
			left := uint32(len(fileOf(list[at:]...)) - 8 - 12)
			for _, size := range []uint32{1<<32 - 1, 1<<32 - 2, 1<<32 - 4, 1<<32 - 8, 1<<32 - 12, 1<<32 - 13, 1 << 31, 1<<31 - 1, 1<<31 | uint32(len(c.Data)), 1 << 24, 1<<24 | uint32(len(c.Data)), 1 << 16, 12000, left + 1, left + 2, left + 4, left + 12} {
				checkNoChunks(t, fmt.Sprintf("%s with the length %d", name, size), lengthAt(list, at, size), impl.ChunkShort)
			}
			for size := range left + 1 {
				if size > 40 && size+40 < left && r.Intn(100) > 0 {
					continue
				}
				want := impl.ChunkSum
				if size == uint32(len(c.Data)) {
					want = 0
				}
				if code := checkSlowChunks(t, lengthAt(list, at, size)); code != want {
					t.Fatalf("%s with the length %d: code %d, not %d", name, size, code, want)
				}
			}
		}
	}
}

// One more and one less than is there, with a sum that is right for what is told.
func TestReadChunksLengthsBesideRightSums(t *testing.T) {
	long := wordOf(4) + "tEXtabc" + wordOf(crc32.ChecksumIEEE([]byte("tEXtabc")))
	checkNoChunks(t, "one more than is there", signText()+long, impl.ChunkShort)
	checkNoChunks(t, "one more than is there, and a chunk", signText()+long+chunkText("IEND", ""), impl.ChunkSum)
	short := wordOf(2) + "tEXtab" + wordOf(crc32.ChecksumIEEE([]byte("tEXtab"))) + "c"
	checkNoChunks(t, "one less than is there", signText()+short, impl.ChunkShort)
	// The byte that is left over is taken for the highest one of the next length.
	checkNoChunks(t, "one less than is there, and a chunk", signText()+short+chunkText("IEND", ""), impl.ChunkShort)
	checkNoChunks(t, "a byte 0 left over, and a chunk", signText()+short[:len(short)-1]+"\x00"+chunkText("IEND", ""), impl.ChunkName)
}

func TestReadChunksNames(t *testing.T) {
	for at := range 4 {
		for b := range 256 {
			name := "tEXt"[:at] + string([]byte{byte(b)}) + "tEXt"[at+1:]
			for _, count := range []int{1, 2, 3, 40} {
				for _, place := range []int{0, count / 2, count - 1} {
					list := sameChunks(count, "IDAT", "abc")
					list[place].Name = name
					if slowNameOk(name) {
						checkChunks(t, fmt.Sprintf("%q at %d of %d", name, place, count), fileOf(list...), list)
						continue
					}
					checkNoChunks(t, fmt.Sprintf("%q at %d of %d", name, place, count), fileOf(list...), impl.ChunkName)
				}
			}
		}
	}
}

func TestReadChunksSums(t *testing.T) {
	r := rand.New(rand.NewSource(199))
	for _, list := range [][]impl.Chunk{{{Name: "IEND"}}, {{Name: "tEXt", Data: "abc"}}, someChunks(r, 3, 30), someChunks(r, 40, 5)} {
		text := fileOf(list...)
		for at := range list {
			behind := len(fileOf(list[:at+1]...))
			for place := behind - 4; place < behind; place++ {
				for _, turn := range []byte{1, 2, 16, 128, 255} {
					checkNoChunks(t, fmt.Sprintf("the sum of %d of %d, byte %d", at, len(list), place), turnedAt(text, place, turn), impl.ChunkSum)
				}
			}
		}
	}
	// Sums of something else that might be taken.
	for _, other := range []string{"", "tEXt", "abc", "abctEXt", wordOf(3) + "tEXtabc", "tEXtabc" + wordOf(3)} {
		sum := crc32.ChecksumIEEE([]byte(other))
		checkNoChunks(t, fmt.Sprintf("the sum of %q", other), signText()+wordOf(3)+"tEXtabc"+wordOf(sum), impl.ChunkSum)
	}
	right := crc32.ChecksumIEEE([]byte("tEXtabc"))
	low := string(binary.LittleEndian.AppendUint32(nil, right))
	for _, sum := range []string{wordOf(^right), wordOf(0), wordOf(1<<32 - 1), low, wordOf(impl.Adler("tEXtabc"))} {
		checkNoChunks(t, fmt.Sprintf("the sum %q", sum), signText()+wordOf(3)+"tEXtabc"+sum, impl.ChunkSum)
	}
}

func TestReadChunksMany(t *testing.T) {
	r := rand.New(rand.NewSource(200))
	for _, list := range [][]impl.Chunk{sameChunks(40, "IDAT", ""), someChunks(r, 40, 10), someChunks(r, 40, 200)} {
		text := fileOf(list...)
		checkChunks(t, "just as many as there may be", text, list)
		for b := range 256 {
			checkNoChunks(t, fmt.Sprintf("the byte %d behind them", b), text+string([]byte{byte(b)}), impl.ChunkMany)
		}
		for _, rest := range []string{
			chunkText("IEND", ""),
			chunkText("IEND", "abc") + chunkText("IEND", ""),
			chunkText("ie d", ""),
			turnedAt(chunkText("IEND", ""), 11, 1),
			wordOf(1<<32 - 1),
			signText(),
			text[8:],
			randomText(r, 30),
		} {
			checkNoChunks(t, fmt.Sprintf("%.30q behind them", rest), text+rest, impl.ChunkMany)
		}
	}
	for _, count := range []int{41, 42, 80, 999} {
		checkNoChunks(t, fmt.Sprintf("%d chunks", count), fileOf(sameChunks(count, "IDAT", "")...), impl.ChunkMany)
	}
	checkNoChunks(t, "1000 chunks, which are too many bytes", fileOf(sameChunks(1000, "IDAT", "")...), impl.ChunkSign)
}

// The faults that a chunk by itself can have, each of which may be there or not.
const (
	faultLength = 1 << iota
	faultName
	faultSum
	allFaults
)

// faultyChunk has just these faults: its sum is that of its Name, whether this one is right or not.
func faultyChunk(faults int) string {
	text := chunkText("tEXt", "abc")
	if faults&faultName > 0 {
		text = chunkText("tExt", "abc")
	}
	if faults&faultLength > 0 {
		text = "\xff\xff\xff\xff" + text[4:]
	}
	if faults&faultSum > 0 {
		text = turnedAt(text, 14, 1)
	}
	return text
}

// faultyFile tells a file of chunks with these faults, and the code of what is met first.
func faultyFile(list []int) (string, int) {
	text, code := signText(), 0
	for i, faults := range list {
		text += faultyChunk(faults)
		switch {
		case code > 0:
		case i == 40:
			code = impl.ChunkMany
		case faults&faultLength > 0:
			code = impl.ChunkShort
		case faults&faultName > 0:
			code = impl.ChunkName
		case faults&faultSum > 0:
			code = impl.ChunkSum
		}
	}
	return text, code
}

// checkFaulty asks for a file with these faults, for the same with a sign that is turned, and for one that is too long.
func checkFaulty(t *testing.T, name string, list []int) {
	t.Helper()
	text, code := faultyFile(list)
	if code == 0 {
		checkChunks(t, name, text, sameChunks(len(list), "tEXt", "abc"))
	} else {
		checkNoChunks(t, name, text, code)
	}
	checkSlowChunks(t, text)
	checkNoChunks(t, name+", the sign turned", turnedAt(text, 7, 1), impl.ChunkSign)
	long := text + strings.Repeat("\x00", 12001-len(text))
	checkNoChunks(t, name+", too long", long, impl.ChunkSign)
	checkNoChunks(t, name+", the sign turned and too long", turnedAt(long, 0, 128), impl.ChunkSign)
}

// Wherever two checks would speak of one chunk, the first that is listed does.
func TestReadChunksOrderInOneChunk(t *testing.T) {
	for _, count := range []int{1, 2, 3, 39, 40, 41, 42} {
		for at := range count {
			for faults := range allFaults {
				list := make([]int, count)
				list[at] = faults
				checkFaulty(t, fmt.Sprintf("faults %d in chunk %d of %d", faults, at, count), list)
			}
		}
	}
}

// Wherever two chunks are wrong, the first of them is told, though a later one has what is listed ahead.
func TestReadChunksOrderInTwoChunks(t *testing.T) {
	for _, c := range []struct{ count, first, second int }{
		{2, 0, 1}, {3, 0, 1}, {3, 0, 2}, {3, 1, 2}, {7, 2, 5}, {40, 0, 39}, {40, 38, 39}, {41, 0, 40}, {41, 39, 40}, {42, 39, 41}, {42, 40, 41},
	} {
		for first := range allFaults {
			for second := range allFaults {
				list := make([]int, c.count)
				list[c.first], list[c.second] = first, second
				checkFaulty(t, fmt.Sprintf("faults %d in chunk %d, %d in chunk %d of %d", first, c.first, second, c.second, c.count), list)
			}
		}
	}
}

// A chunk is wrong, and the file is cut in the one behind it.
func TestReadChunksOrderAheadOfACut(t *testing.T) {
	for faults := range allFaults {
		for _, count := range []int{1, 2, 39, 40} {
			list := make([]int, count)
			list[count-1] = faults
			text, code := faultyFile(list)
			if code == 0 {
				code = impl.ChunkShort
				if count == 40 {
					code = impl.ChunkMany
				}
			}
			for size := 1; size < 15; size++ {
				checkNoChunks(t, fmt.Sprintf("faults %d in chunk %d, %d bytes behind it", faults, count, size), text+faultyChunk(0)[:size], code)
			}
		}
	}
}

func TestReadChunksOfSpoiltTexts(t *testing.T) {
	r := rand.New(rand.NewSource(201))
	seen := map[int]int{}
	for range 20000 {
		list := someChunks(r, r.Intn(5), r.Intn(20))
		if r.Intn(10) == 0 {
			list = someChunks(r, 38+r.Intn(5), 3)
		}
		text := fileOf(list...)
		seen[checkSlowChunks(t, text)]++
		seen[checkSlowChunks(t, spoilt(r, text))]++
		seen[checkSlowChunks(t, signText()+spoilt(r, text[8:]))]++
	}
	for code := range 6 {
		if seen[code] == 0 {
			t.Errorf("no text has the code %d: %v", code, seen)
		}
	}
}

func TestReadChunksOfAnyTexts(t *testing.T) {
	r := rand.New(rand.NewSource(202))
	for range 20000 {
		text := randomText(r, r.Intn(60))
		checkSlowChunks(t, text)
		checkSlowChunks(t, signText()+text)
		checkSlowChunks(t, signText()+"\x00\x00\x00"+text)
	}
}

// writtenElsewhere are picture files that another writer made, of several kinds.
func writtenElsewhere(t *testing.T) []string {
	t.Helper()
	r := rand.New(rand.NewSource(203))
	palette := color.Palette{color.NRGBA{1, 2, 3, 255}, color.NRGBA{4, 5, 6, 7}, color.White}
	var files []string
	for _, size := range []int{1, 5, 16, 24} {
		box := image.Rect(0, 0, size, size)
		gray, full, table := image.NewGray(box), image.NewNRGBA64(box), image.NewPaletted(box, palette)
		r.Read(gray.Pix)
		r.Read(full.Pix)
		for i := range table.Pix {
			table.Pix[i] = byte(r.Intn(3))
		}
		for _, picture := range []image.Image{gray, full, table} {
			var file bytes.Buffer
			if err := png.Encode(&file, picture); err != nil {
				t.Fatal(err)
			}
			files = append(files, file.String())
		}
	}
	return files
}

func TestChunksOfAnotherWriter(t *testing.T) {
	for _, file := range writtenElsewhere(t) {
		list, code := impl.ReadChunks(file)
		if code != 0 || len(list) < 3 || list[0].Name != "IHDR" || len(list[0].Data) != 13 || list[len(list)-1] != (impl.Chunk{Name: "IEND"}) {
			t.Fatalf("%.40q: %.60q, code %d", file, list, code)
		}
		checkSlowChunks(t, file)
		checkChunksText(t, "a file that was written elsewhere", list, file)
	}
}

// Chunks that say nothing of the picture are passed over by another reader, which looks at their sums.
func TestChunksForAnotherReader(t *testing.T) {
	r := rand.New(rand.NewSource(204))
	for _, file := range writtenElsewhere(t) {
		list, _ := impl.ReadChunks(file)
		for at := 1; at < len(list); at++ {
			if list[at].Name == "IDAT" && list[at-1].Name == "IDAT" {
				continue
			}
			more := slices.Insert(slices.Clone(list), at, impl.Chunk{Name: "prIv", Data: randomText(r, r.Intn(300))})
			want, err := png.Decode(strings.NewReader(file))
			if err != nil {
				t.Fatal(err)
			}
			got, err := png.Decode(strings.NewReader(chunksText(t, more)))
			if err != nil {
				t.Fatalf("%.60q: %v", more, err)
			}
			for i := range want.Bounds().Dx() * want.Bounds().Dy() {
				x, y := i%want.Bounds().Dx(), i/want.Bounds().Dx()
				if got.At(x, y) != want.At(x, y) {
					t.Fatalf("%d, %d: %v, not %v", x, y, got.At(x, y), want.At(x, y))
				}
			}
		}
	}
}

// inMemoryOf says whether a piece stands in the memory of a text.
func inMemoryOf(text, piece string) bool {
	if len(text) == 0 || len(piece) == 0 {
		return false
	}
	first := uintptr(unsafe.Pointer(unsafe.StringData(text)))
	place := uintptr(unsafe.Pointer(unsafe.StringData(piece)))
	return place >= first && place < first+uintptr(len(text))
}

func TestChunksShareNoMemory(t *testing.T) {
	r := rand.New(rand.NewSource(205))
	for _, count := range []int{0, 1, 2, 7, 40} {
		want := someChunks(r, count, 100)
		text := fileOf(want...)
		if count > 0 && (!inMemoryOf(text, text[12:16]) || inMemoryOf(text, strings.Clone(text[12:16]))) {
			t.Fatal("memory is not told apart")
		}
		first, _ := impl.ReadChunks(text)
		second, _ := impl.ReadChunks(text)
		for i, c := range first {
			if inMemoryOf(text, c.Name) || inMemoryOf(text, c.Data) {
				t.Fatalf("chunk %d of %d is a piece of the text", i, count)
			}
			if inMemoryOf(second[i].Name, c.Name) || inMemoryOf(second[i].Data, c.Data) {
				t.Fatalf("chunk %d of %d is the same in two answers", i, count)
			}
		}
		all := first[:cap(first)]
		for i := range all {
			all[i] = impl.Chunk{Name: "none", Data: "other"}
		}
		if !slices.Equal(second, want) {
			t.Fatalf("a second answer was changed: %.60q", second)
		}
		checkChunks(t, "the text as it was", text, want)
		if text != fileOf(want...) {
			t.Fatalf("a text was changed: %.60q", text)
		}
	}
}

func TestChunksTextLeavesArgumentsAlone(t *testing.T) {
	r := rand.New(rand.NewSource(206))
	spare := impl.Chunk{Name: "spAr", Data: "e"}
	for _, count := range []int{0, 1, 2, 7, 40, 41} {
		want := someChunks(r, count, 100)
		room := append(slices.Clone(want), spare, spare)
		list := room[:count]
		told, ok := impl.ChunksText(list)
		if ok != (count <= 40) || !slices.Equal(list, want) || room[count] != spare || room[count+1] != spare {
			t.Fatalf("%d chunks: %v, %.60q", count, ok, room)
		}
		for _, c := range list {
			if inMemoryOf(told, c.Name) || inMemoryOf(told, c.Data) {
				t.Fatalf("%d chunks: the text has memory of one", count)
			}
		}
		kept := strings.Clone(told)
		for i := range list {
			list[i] = spare
		}
		if told != kept {
			t.Fatalf("a text was changed: %.60q, not %.60q", told, kept)
		}
	}
}

// What was refused or told ahead of a call changes nothing.
func TestChunksKeepNothing(t *testing.T) {
	file, list := knownFile(t)
	for range 3 {
		checkNoChunks(t, "no sign", "x", impl.ChunkSign)
		checkNoChunks(t, "cut", file[:len(file)-1], impl.ChunkShort)
		checkNoChunks(t, "a sum turned", turnedAt(file, len(file)-1, 1), impl.ChunkSum)
		checkNoChunksText(t, "a wrong name", append(slices.Clone(list), impl.Chunk{Name: "wrong"}))
		checkChunks(t, "behind refusals", file, list)
		checkChunksText(t, "behind refusals", list, file)
		checkChunks(t, "the sign alone", signText(), nil)
	}
}

// Calls at the same time, and again, answer the same, and leave none running, whatever is wrong and wherever.
func TestReadChunksIsJoined(t *testing.T) {
	running := runtime.NumGoroutine()
	r := rand.New(rand.NewSource(207))
	var texts []string
	for _, count := range []int{0, 1, 2, 10, 39, 40, 41, 42} {
		text := fileOf(someChunks(r, count, 100)...)
		texts = append(texts, text, text[:len(text)-1], text+"x", turnedAt(text, len(text)-1, 1), turnedAt(text, len(text)/2, 1))
	}
	var all sync.WaitGroup
	for range 8 {
		for _, text := range texts {
			want, wantCode := slowChunks(text)
			all.Go(func() {
				if list, code := impl.ReadChunks(text); !slices.Equal(list, want) || code != wantCode {
					t.Errorf("%.40q: %.40q, code %d; want %.40q, code %d", text, list, code, want, wantCode)
				}
			})
		}
	}
	all.Wait()
	for tries := 0; runtime.NumGoroutine() > running; tries++ {
		if tries == 1000000 {
			t.Fatalf("%d are running, not %d", runtime.NumGoroutine(), running)
		}
		runtime.Gosched()
	}
}
