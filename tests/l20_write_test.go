package tests

import (
	"fmt"
	"math/rand"
	"runtime"
	"slices"
	"strings"
	"sync"
	"testing"

	"loop.example/g00099/impl"
)

const (
	levelCount = 4
	wayCount   = 6
)

func eachLevelAndWay(tell func(level, way int)) {
	for level := range levelCount {
		for way := range wayCount {
			tell(level, way)
		}
	}
}

// slowWrite lays the chunks one behind the other, each as the tests tell it; only the packing is the program's.
func slowWrite(p impl.Png, level, way int) (string, bool) {
	if !slowPngOk(p) || level < 0 || level >= levelCount || way < 0 || way >= wayCount {
		return "", false
	}
	lines := linesOf(p, way)
	packed, ok := impl.Deflate(lines, level)
	if !ok || len(lines) > 2600 {
		return "", false
	}
	file := fileOf(withPiece(piecesOf(p, ""), "IDAT", zlibHeads()[level]+packed+sumText(lines))...)
	if len(file) > 12000 {
		return "", false
	}
	return file, true
}

// slowFiles are those of Reduced by each way, and then those of the picture as it is; an empty text of one that can't be written.
func slowFiles(p impl.Png, level int) []string {
	less, _ := slowReduced(p)
	var files []string
	for _, picture := range []impl.Png{less, p} {
		for way := range wayCount {
			file, _ := slowWrite(picture, level, way)
			files = append(files, file)
		}
	}
	return files
}

// firstShortest is the place of the first of the shortest files, -1 when there is none.
func firstShortest(files []string) int {
	for size := 1; size <= 12000; size++ {
		if at := slices.IndexFunc(files, func(file string) bool { return len(file) == size }); at >= 0 {
			return at
		}
	}
	return -1
}

// checkMeansSame wants the file to be read as a picture that means what this one does.
func checkMeansSame(t *testing.T, name, file string, p impl.Png) {
	t.Helper()
	got, code := impl.ReadPng(file)
	if code != 0 {
		t.Fatalf("%s of %s: code %d", name, brief(p), code)
	}
	was, wasOk := impl.MeaningOf(p)
	is, ok := impl.MeaningOf(got)
	if !ok || !wasOk || !impl.SameMeaning(was, is) || !impl.SameMeaning(is, was) || !sameMeant(slowMeaning(p), is) {
		t.Fatalf("%s of %s: %s means another thing", name, brief(p), brief(got))
	}
}

// checkP18 wants what the slow one writes, and the picture to be read of it; it tells whether it can be written.
func checkP18(t *testing.T, p impl.Png, level, way int) bool {
	t.Helper()
	want, wantOk := slowWrite(p, level, way)
	file, ok := impl.WritePng(p, level, way)
	if ok != wantOk || file != want {
		t.Fatalf("%s, level %d, way %d: %d bytes, %.200q, %v; want %d bytes, %.200q, %v", brief(p), level, way, len(file), file, ok, len(want), want, wantOk)
	}
	if ok {
		checkReadPng(t, "a written picture", file, p)
		checkMeansSame(t, "WritePng", file, p)
	}
	return ok
}

// checkP20 wants the first of the shortest files, and none to be shorter by the program's own ways;
// it tells the place of the way, -1 when there is none.
func checkP20(t *testing.T, p impl.Png, level int) int {
	t.Helper()
	files := slowFiles(p, level)
	at := firstShortest(files)
	want := ""
	if at >= 0 {
		want = files[at]
	}
	best, ok := impl.BestPng(p, level)
	if ok != (at >= 0) || best != want {
		t.Fatalf("%s, level %d: %d bytes, %.200q, %v; want %d bytes, %.200q, which is way %d", brief(p), level, len(best), best, ok, len(want), want, at)
	}
	for _, picture := range []impl.Png{impl.Reduced(p), p} {
		for way := range wayCount {
			if file, written := impl.WritePng(picture, level, way); written && (!ok || len(file) < len(best)) {
				t.Fatalf("%s, level %d: %d bytes, %v; by way %d %d bytes", brief(p), level, len(best), ok, way, len(file))
			}
		}
	}
	if ok {
		checkMeansSame(t, "BestPng", best, p)
	}
	return at
}

func checkNoWrite(t *testing.T, name string, p impl.Png, level, way int) {
	t.Helper()
	if file, ok := impl.WritePng(p, level, way); ok || file != "" {
		t.Fatalf("%s: %s, level %d, way %d: %d bytes, %v; want a refusal", name, brief(p), level, way, len(file), ok)
	}
}

func checkNoBestPng(t *testing.T, name string, p impl.Png, level int) {
	t.Helper()
	if file, ok := impl.BestPng(p, level); ok || file != "" {
		t.Fatalf("%s: %s, level %d: %d bytes, %v; want a refusal", name, brief(p), level, len(file), ok)
	}
}

// checkUnwritten wants a picture to be refused by every level and way.
func checkUnwritten(t *testing.T, name string, p impl.Png) {
	t.Helper()
	eachLevelAndWay(func(level, way int) { checkNoWrite(t, name, p, level, way) })
	for level := range levelCount {
		checkNoBestPng(t, name, p, level)
	}
}

func TestP18EveryLevelAndWay(t *testing.T) {
	kinds, seen := map[string]int{}, map[bool]int{}
	eachPng(300, func(p impl.Png) {
		eachLevelAndWay(func(level, way int) {
			ok := checkP18(t, p, level, way)
			seen[ok]++
			if ok {
				kinds[fmt.Sprint(p.Head.Color, p.Head.Depth, p.Head.Lace, len(p.Clear) > 0, len(p.Kept) > 0, level, way)]++
			}
		})
	})
	// Of 11 kinds something may be clear, of 4 nothing.
	if want := 2 * 2 * (2*11 + 4) * levelCount * wayCount; len(kinds) != want {
		t.Errorf("%d kinds, not %d: %v", len(kinds), want, kinds)
	}
	if seen[false] == 0 {
		t.Error("no lines are too long")
	}
}

// Pictures that can be packed well, as their pixels have something in common.
func TestP18OfHabits(t *testing.T) {
	written := 0
	eachLessPng(301, 4, func(p impl.Png) {
		level, way := written%levelCount, written/levelCount%wayCount
		checkP18(t, p, level, way)
		checkP18(t, impl.Reduced(p), level, way)
		written++
	})
	if written < 3000 {
		t.Errorf("only %d pictures", written)
	}
}

func TestP18EverySize(t *testing.T) {
	r := rand.New(rand.NewSource(302))
	at := 0
	eachHead(func(h impl.Head) {
		// A prime number, so that each size comes with others of the kinds.
		if at++; at%7 != 0 {
			return
		}
		for _, p := range somePngs(r, h) {
			checkP18(t, p, r.Intn(levelCount), r.Intn(wayCount))
		}
	})
}

// Pictures of which something was turned, so that they may be none.
func TestP18OfTurnedPictures(t *testing.T) {
	r := rand.New(rand.NewSource(303))
	seen := map[bool]int{}
	eachPng(304, func(p impl.Png) {
		for range 3 {
			bad := turnedPng(r, p)
			seen[slowPngOk(bad)]++
			checkP18(t, bad, r.Intn(levelCount), r.Intn(wayCount))
		}
	})
	if seen[true] < 500 || seen[false] < 500 {
		t.Errorf("%v are right and not", seen)
	}
}

func TestP18ForAnotherReader(t *testing.T) {
	told := 0
	eachPng(305, func(p impl.Png) {
		level, way := told%levelCount, told/levelCount%wayCount
		if file, ok := impl.WritePng(p, level, way); ok {
			checkElsewhere(t, file)
		}
		if file, ok := impl.BestPng(p, level); ok {
			checkElsewhere(t, file)
		}
		told++
	})
	if told < 500 {
		t.Errorf("only %d pictures", told)
	}
}

// A picture that was written elsewhere comes again, byte by byte; so do others in figures.
func TestWritePngInFigures(t *testing.T) {
	known, _ := knownFile(t)
	p, _ := impl.ReadPng(known)
	if file, ok := impl.WritePng(p, 3, 1); !ok || file != known {
		t.Errorf("%q, %v; want %q", file, ok, known)
	}
	head := "89504e470d0a1a0a" + "0000000d49484452" + "00000001" + "00000001"
	end := "0000000049454e44ae426082"
	white := onePixel(0, 8, nil, nil, 255)
	laced := copyOfPng(white)
	laced.Head.Lace = true
	for _, c := range []struct {
		want       string
		p          impl.Png
		level, way int
	}{
		{head + "0800000000" + "3a7e9b55" + "0000000d49444154" + "7801" + "010200fdff" + "00ff" + "01010100" + "@1" + end, white, 0, 0},
		{head + "0800000000" + "3a7e9b55" + "0000000d49444154" + "7801" + "010200fdff" + "04ff" + "01090104" + "@1" + end, white, 0, 4},
		{head + "0800000001" + "@0" + "0000000d49444154" + "7801" + "010200fdff" + "02ff" + "01050102" + "@1" + end, laced, 0, 2},
		{head + "0800000000" + "3a7e9b55" + "0000000a49444154" + "785e" + "63f80f00" + "01010100" + "@1" + end, white, 1, 0},
		{head + "0800000000" + "3a7e9b55" + "0000000a49444154" + "789c" + "63f80f00" + "01010100" + "@1" + end, white, 2, 0},
		{head + "0800000000" + "3a7e9b55" + "0000000a49444154" + "78da" + "63f80f00" + "01010100" + "@1" + end, white, 3, wayCount - 1},
	} {
		file, ok := impl.WritePng(c.p, c.level, c.way)
		want := withSums(t, c.want)
		if !ok || file != want {
			t.Errorf("%+v, level %d, way %d: %x, %v; want %x", c.p.Head, c.level, c.way, file, ok, want)
		}
	}
}

// withSums has in place of @0 the sum of the first chunk, and of @1 that of the second one.
func withSums(t *testing.T, figures string) string {
	t.Helper()
	blank := strings.NewReplacer("@0", "00000000", "@1", "00000000")
	text := ofHex(t, blank.Replace(figures))
	first := text[8+4 : 8+4+4+13]
	second := text[8+25+4 : len(text)-12-4]
	return ofHex(t, strings.NewReplacer("@0", crcHex(first), "@1", crcHex(second)).Replace(figures))
}

func crcHex(text string) string { return fmt.Sprintf("%08x", impl.Crc(text)) }

func namesOf(list []impl.Chunk) string {
	var names []string
	for _, c := range list {
		names = append(names, c.Name)
	}
	return strings.Join(names, " ")
}

// What is told of each chunk, by the functions of the chapters ahead.
func TestWritePngChunks(t *testing.T) {
	full := tablePng()
	full.Kept = []impl.Chunk{{Name: "tEXt", Data: "a"}, {Name: "gAMA", Data: "bbbb"}, {Name: "tEXt", Data: ""}, {Name: "sBIT", Data: "\x00"}, {Name: "iHDR", Data: "c"}}
	noClear, noKept, bare := copyOfPng(full), copyOfPng(full), copyOfPng(full)
	noClear.Clear, noKept.Kept, bare.Clear, bare.Kept = nil, []impl.Chunk{}, []int{}, nil
	gray := wide(2, 0, 8, []int{7}, 7, 255)
	for _, c := range []struct {
		names string
		p     impl.Png
	}{
		{"IHDR PLTE tRNS tEXt gAMA tEXt sBIT iHDR IDAT IEND", full},
		{"IHDR PLTE tEXt gAMA tEXt sBIT iHDR IDAT IEND", noClear},
		{"IHDR PLTE tRNS IDAT IEND", noKept},
		{"IHDR PLTE IDAT IEND", bare},
		{"IHDR tRNS IDAT IEND", gray},
		{"IHDR IDAT IEND", wide(1, 6, 16, nil, 1, 2, 3, 4)},
	} {
		for _, lace := range bothLaces() {
			p := c.p
			p.Head.Lace = lace
			eachLevelAndWay(func(level, way int) { checkWrittenChunks(t, c.names, p, level, way) })
		}
	}
}

func checkWrittenChunks(t *testing.T, names string, p impl.Png, level, way int) {
	t.Helper()
	file, ok := impl.WritePng(p, level, way)
	list, code := impl.ReadChunks(file)
	if !ok || code != 0 || namesOf(list) != names {
		t.Fatalf("%+v: %v, code %d, %s; want %s", p.Head, ok, code, namesOf(list), names)
	}
	data := map[string]string{}
	data["IHDR"], _ = impl.HeadText(p.Head)
	data["PLTE"], _ = impl.TableText(p.Table)
	data["tRNS"], _ = impl.ClearText(p.Head, len(p.Table), p.Clear)
	lines, _ := impl.ScanOf(p.Raster, p.Head.Lace, way)
	data["IDAT"], _ = impl.ZlibOf(lines, level)
	var kept []impl.Chunk
	for _, c := range list {
		if neededNames()[c.Name] == "" {
			kept = append(kept, c)
		} else if c.Data != data[c.Name] {
			t.Fatalf("%+v, level %d, way %d: %s has %q, not %q", p.Head, level, way, c.Name, c.Data, data[c.Name])
		}
	}
	if !slices.Equal(kept, p.Kept) {
		t.Fatalf("%+v: %q are kept, not %q", p.Head, kept, p.Kept)
	}
	if h, ok := impl.ReadHead(list[0].Data); !ok || h != p.Head {
		t.Fatalf("%+v: the head is %+v", p.Head, h)
	}
}

func TestWritingRefusesLevelsAndWays(t *testing.T) {
	var list []impl.Png
	eachKind(func(row colorRow, depth int) { list = append(list, ripePng(row.color, depth)) })
	levels := slices.DeleteFunc(append(oddNumbers(), -1, 4, 5, 6, 7, 8, 256, -4), func(n int) bool { return n >= 0 && n < levelCount })
	ways := slices.DeleteFunc(append(oddNumbers(), -1, 6, 7, 8, 256, -6), func(n int) bool { return n >= 0 && n < wayCount })
	for _, p := range append(list, tablePng()) {
		for _, level := range levels {
			for way := range wayCount {
				checkNoWrite(t, "no level", p, level, way)
			}
			for _, way := range ways {
				checkNoWrite(t, "no level, no way", p, level, way)
			}
			checkNoBestPng(t, "no level", p, level)
		}
		for _, way := range ways {
			for level := range levelCount {
				checkNoWrite(t, "no way", p, level, way)
			}
		}
		eachLevelAndWay(func(level, way int) {
			if !checkP18(t, p, level, way) {
				t.Fatalf("%s, level %d, way %d: refused", brief(p), level, way)
			}
		})
	}
}

func TestWritingOfSpoiltPictures(t *testing.T) {
	told := 0
	eachRipe(t, func(_ lessRow, p impl.Png) {
		for name, bad := range spoiltPngs(p) {
			checkUnwritten(t, name, bad)
			told++
		}
	})
	if told < 500 {
		t.Errorf("only %d", told)
	}
}

func TestWritingOfSpoiltTables(t *testing.T) {
	list := map[string]impl.Png{}
	spoil := func(name string, how func(p *impl.Png)) {
		bad := tablePng()
		how(&bad)
		list[name] = bad
	}
	spoil("no table", func(p *impl.Png) { p.Table = nil })
	spoil("no table, and nothing clear", func(p *impl.Png) { p.Table, p.Clear = nil, nil })
	spoil("a table that is too short", func(p *impl.Png) { p.Table = p.Table[:2] })
	spoil("a table that is too long", func(p *impl.Png) { p.Table = tableOf(0, 1, 5) })
	spoil("a color below 0", func(p *impl.Png) { p.Table[2].B = -1 })
	spoil("a color that is too much", func(p *impl.Png) { p.Table[0].R = 256 })
	spoil("more clear than colors", func(p *impl.Png) { p.Clear = make([]int, 4) })
	spoil("a clear number below 0", func(p *impl.Png) { p.Clear[0] = -1 })
	spoil("a clear number that is too much", func(p *impl.Png) { p.Clear[1] = 256 })
	spoil("a sample that is no place", func(p *impl.Png) { p.Raster.Samples[5] = 3 })
	spoil("a sample below 0", func(p *impl.Png) { p.Raster.Samples[0] = -1 })
	spoil("another color", func(p *impl.Png) { p.Head.Color, p.Raster.Color = 0, 0 })
	spoil("another color, and nothing clear", func(p *impl.Png) { p.Head.Color, p.Raster.Color, p.Clear = 0, 0, nil })
	spoil("another depth of the raster", func(p *impl.Png) { p.Raster.Depth = 4 })
	spoil("a kept chunk that is not needless", func(p *impl.Png) { p.Kept[0].Name = "TEXt" })
	spoil("a kept tRNS", func(p *impl.Png) { p.Kept[0].Name = "tRNS" })
	spoil("a kept name that is none", func(p *impl.Png) { p.Kept[0].Name = "tExt" })
	spoil("an empty name", func(p *impl.Png) { p.Kept[0].Name = "" })
	spoil("a kept chunk that is too long", func(p *impl.Png) { p.Kept[0].Data = strings.Repeat("x", 2601) })
	for name, bad := range list {
		if slowPngOk(bad) {
			t.Fatalf("%s is right", name)
		}
		checkUnwritten(t, name, bad)
	}
}

// Of wrong heads, lists of any numbers, and of nothing.
func TestWritingOfNothing(t *testing.T) {
	checkUnwritten(t, "the zero value", impl.Png{})
	for _, h := range wrongHeads() {
		for _, samples := range [][]int{nil, {0}, oddNumbers()} {
			p := impl.Png{Head: h, Clear: oddNumbers(), Raster: impl.Raster{Width: h.Width, Height: h.Height, Color: h.Color, Depth: h.Depth, Samples: samples}}
			checkUnwritten(t, "a wrong head", p)
		}
		right := ripePng(2, 8)
		right.Head = h
		checkUnwritten(t, "a wrong head of a right raster", right)
	}
}

// No picture has lines of just MaxData bytes; some have one less, and some one more.
func TestWritePngLongLines(t *testing.T) {
	r := rand.New(rand.NewSource(306))
	sizes := map[int]int{}
	eachHead(func(h impl.Head) {
		size := slowScanBytes(h.Width, h.Height, colorOf(h.Color), h.Depth, h.Lace)
		if size < 2560 || size > 2640 {
			return
		}
		sizes[size]++
		p := somePng(r, h, 0)
		eachLevelAndWay(func(level, way int) {
			if checkP18(t, p, level, way) != (size <= 2600) {
				t.Fatalf("%+v: %d bytes", h, size)
			}
		})
	})
	if sizes[2599] == 0 || sizes[2600] != 0 || sizes[2601] == 0 {
		t.Errorf("%v", sizes)
	}
}

// withPadding has kept chunks that have so many bytes more in a file: at least those of an empty one.
func withPadding(p impl.Png, size int) impl.Png {
	p = copyOfPng(p)
	for size > 0 {
		part := min(size, 12+2600)
		if left := size - part; left > 0 && left < 12 {
			part -= 12
		}
		p.Kept = append(p.Kept, impl.Chunk{Name: "paDd", Data: strings.Repeat("x", part-12)})
		size -= part
	}
	return p
}

func TestWritePngLongFiles(t *testing.T) {
	r := rand.New(rand.NewSource(307))
	eachKind(func(row colorRow, depth int) {
		for _, p := range somePngs(r, impl.Head{Width: 7, Height: 5, Depth: depth, Color: row.color, Lace: r.Intn(2) == 0}) {
			eachLevelAndWay(func(level, way int) {
				file, _ := impl.WritePng(p, level, way)
				for more := -1; more <= 2; more++ {
					padded := withPadding(p, 12000-len(file)+more)
					if checkP18(t, padded, level, way) != (more <= 0) {
						t.Fatalf("%+v: a file of %d bytes", p.Head, 12000+more)
					}
				}
			})
		}
	})
}

func TestWritePngHowManyKept(t *testing.T) {
	r := rand.New(rand.NewSource(308))
	for _, p := range []impl.Png{tablePng(), ripePng(0, 1), ripePng(2, 8), ripePng(6, 16)} {
		for _, count := range []int{0, 1, 31, 32, 33, 34, 40, 41} {
			for _, list := range [][]impl.Chunk{sameChunks(count, "tEXt", ""), someKept(r, count, 40), safeKept(r, count)} {
				p.Kept = list
				eachLevelAndWay(func(level, way int) {
					if checkP18(t, p, level, way) != (count <= 32) {
						t.Fatalf("%+v: %d chunks", p.Head, count)
					}
				})
				for level := range levelCount {
					if (checkP20(t, p, level) >= 0) != (count <= 32) {
						t.Fatalf("%+v: %d chunks", p.Head, count)
					}
				}
			}
		}
	}
}

func TestP20OfManyPictures(t *testing.T) {
	won, kinds := map[int]int{}, map[string]int{}
	told, same := 0, 0
	eachLessPng(309, 3, func(p impl.Png) {
		level := told % levelCount
		told++
		at := checkP20(t, p, level)
		won[at]++
		if at >= 0 {
			kinds[fmt.Sprint(p.Head.Color, p.Head.Depth, p.Head.Lace, level)]++
			if hasOtherShortest(p, level) {
				same++
			}
		}
	})
	for at := -1; at <= wayCount; at++ {
		if won[at] == 0 {
			t.Errorf("way %d is never the first of the shortest: %v", at, won)
		}
	}
	if same < 100 {
		t.Errorf("only %d times several are as short", same)
	}
	if len(kinds) != 2*15*levelCount {
		t.Errorf("%d kinds: %v", len(kinds), kinds)
	}
}

// hasOtherShortest tells whether there is another file of as many bytes as the best one.
func hasOtherShortest(p impl.Png, level int) bool {
	best, _ := impl.BestPng(p, level)
	for way := range wayCount {
		for _, picture := range []impl.Png{impl.Reduced(p), p} {
			if file, _ := impl.WritePng(picture, level, way); len(file) == len(best) && file != best {
				return true
			}
		}
	}
	return false
}

// madePng has lines of these kinds, one by one: the first line has any bytes, each other one nearly all the same,
// so that it is told with more by other kinds.
func madePng(t *testing.T, r *rand.Rand, h impl.Head, kinds ...int) impl.Png {
	t.Helper()
	var lines strings.Builder
	for y := range h.Height {
		row := []byte(randomText(r, bytesNeeded(h.Width*colorOf(h.Color).channels, h.Depth)))
		if y > 0 {
			row = slices.Repeat(row[:1], len(row))
			row[r.Intn(len(row))]++
		}
		lines.WriteByte(byte(kinds[y%len(kinds)]))
		lines.Write(row)
	}
	raster, code := impl.ScanRead(lines.String(), h.Width, h.Height, h.Color, h.Depth, h.Lace)
	if code != 0 {
		t.Fatalf("%+v: code %d", h, code)
	}
	return impl.Png{Head: h, Raster: raster}
}

// Each of the twelve ways is the first of the shortest for some pictures, those of the picture as it is too,
// where a table has more bytes than it spares.
func TestP20ByEachWay(t *testing.T) {
	r := rand.New(rand.NewSource(318))
	won := map[int]int{}
	for _, kinds := range [][]int{{0}, {1}, {2}, {3}, {4}, {1, 2}, {2, 1, 1}, {0, 2, 3}} {
		for _, h := range []impl.Head{
			{Width: 12, Height: 12, Depth: 8, Color: 0}, {Width: 14, Height: 9, Depth: 8, Color: 2}, {Width: 10, Height: 14, Depth: 8, Color: 6}, {Width: 12, Height: 12, Depth: 16, Color: 0},
		} {
			for range 3 {
				p := madePng(t, r, h, kinds...)
				for level := range levelCount {
					won[checkP20(t, p, level)]++
				}
			}
		}
	}
	for at := range 2 * wayCount {
		if at != wayCount && won[at] == 0 {
			t.Errorf("way %d is never the first of the shortest: %v", at, won)
		}
	}
}

func TestP20OfTurnedPictures(t *testing.T) {
	r := rand.New(rand.NewSource(310))
	seen := map[bool]int{}
	eachPng(311, func(p impl.Png) {
		bad := turnedPng(r, p)
		seen[slowPngOk(bad)]++
		checkP20(t, bad, r.Intn(levelCount))
	})
	if seen[true] < 300 || seen[false] < 300 {
		t.Errorf("%v are right and not", seen)
	}
}

// checkBestPng wants the text that WritePng tells of this picture by this way.
func checkBestPng(t *testing.T, name string, p impl.Png, level int, from impl.Png, way int) {
	t.Helper()
	checkP20(t, p, level)
	want, wantOk := slowWrite(from, level, way)
	if best, ok := impl.BestPng(p, level); !ok || !wantOk || best != want {
		t.Errorf("%s: level %d: %x, %v; want %x", name, level, best, ok, want)
	}
}

func TestBestPngReducedFirst(t *testing.T) {
	// One byte a row, whatever the depth: stored, all twelve have as many bytes.
	for _, sample := range []int{0, 255} {
		checkBestPng(t, "gray", onePixel(0, 8, nil, nil, sample), 0, onePixel(0, 1, nil, nil, sample/255), 0)
		checkBestPng(t, "gray of 2 bits", onePixel(0, 2, nil, nil, sample/85), 0, onePixel(0, 1, nil, nil, sample/255), 0)
	}
	checkBestPng(t, "gray with something clear", onePixel(0, 4, nil, []int{15}, 0), 0, onePixel(0, 1, nil, []int{1}, 0), 0)
	// What stays as it is goes by the first way, too.
	checkBestPng(t, "a table", tablePng(), 0, tablePng(), 0)
	// A Touchy one stays, though less of it is right.
	touchy := onePixel(0, 8, nil, nil, 255)
	touchy.Kept = []impl.Chunk{{Name: "bKGD", Data: "\x00\x01"}}
	checkBestPng(t, "a touchy one", touchy, 0, touchy, 0)
	// A row of one byte less: the picture as it is loses.
	checkBestPng(t, "a short row", wide(2, 0, 8, nil, 0, 255), 0, wide(2, 0, 1, nil, 0, 1), 0)
}

// A table of few pixels has more bytes than the pixels themselves.
func TestBestPngAsItIs(t *testing.T) {
	r := rand.New(rand.NewSource(312))
	for pixels := 1; pixels <= 5; pixels++ {
		for _, color := range []int{2, 6} {
			p := wide(pixels, color, 8, nil, mixedSamples(r, pixels*colorOf(color).channels, 8)...)
			less := impl.Reduced(p)
			if less.Head.Color != impl.ColorTable {
				t.Fatalf("%s has no table", brief(less))
			}
			for level := range levelCount {
				at := checkP20(t, p, level)
				own, _ := impl.WritePng(p, level, at%wayCount)
				best, ok := impl.BestPng(p, level)
				if at < wayCount || !ok || best != own {
					t.Errorf("%d pixels of color %d, level %d: way %d, %x; want %x", pixels, color, level, at, best, own)
				}
				for way := range wayCount {
					if file, ok := impl.WritePng(less, level, way); !ok || len(file) <= len(best) {
						t.Errorf("%d pixels of color %d, level %d: by a table %d bytes, as it is %d", pixels, color, level, len(file), len(best))
					}
				}
			}
		}
	}
}

// Its lines are too long, but those of Reduced are not.
func TestBestPngOfReducedAlone(t *testing.T) {
	r := rand.New(rand.NewSource(313))
	for _, lace := range bothLaces() {
		p := habitPngs(r, impl.Head{Width: 24, Height: 24, Depth: 16, Color: 6, Lace: lace}, habit{pixels: 300, twice: 1, whole: true})[0]
		eachLevelAndWay(func(level, way int) { checkNoWrite(t, "long lines", p, level, way) })
		for level := range levelCount {
			if at := checkP20(t, p, level); at < 0 || at >= wayCount {
				t.Errorf("level %d: way %d", level, at)
			}
		}
	}
}

// There is no room left for a table.
func TestBestPngAsItIsAlone(t *testing.T) {
	small := wide(2, 2, 8, nil, 1, 2, 3, 4, 5, 6)
	for level := range levelCount {
		shortest, _ := impl.BestPng(small, level)
		for more := -20; more <= 2; more++ {
			p := withPadding(small, 12000-len(shortest)+more)
			at := checkP20(t, p, level)
			if (at >= wayCount) != (more <= 0) {
				t.Fatalf("level %d: %d bytes by way %d", level, 12000+more, at)
			}
			if more == 0 {
				for way := range wayCount {
					checkNoWrite(t, "a table more", impl.Reduced(p), level, way)
				}
			}
		}
	}
}

// There is room for some ways, for one alone, and for none.
func TestBestPngOfSomeWays(t *testing.T) {
	some := 0
	list := []impl.Png{grayRamp(24, 24, 8), grayRamp(17, 9, 8), grayRamp(20, 20, 16)}
	for _, p := range list {
		for level := range levelCount {
			files := slowFiles(p, level)
			for _, edge := range files {
				for more := range 2 {
					padded := withPadding(p, 12000-len(edge)+more)
					at := checkP20(t, padded, level)
					fit := len(slices.DeleteFunc(slowFiles(padded, level), func(file string) bool { return file == "" }))
					if (at < 0) != (fit == 0) {
						t.Fatalf("%+v: %d ways, the first of the shortest is %d", p.Head, fit, at)
					}
					if fit > 0 && fit < 2*wayCount {
						some++
					}
				}
			}
		}
	}
	if some < 20 {
		t.Errorf("only %d times some ways can be written", some)
	}
}

// grayRamp has samples that grow to the right and down, and stay as they are when they are reduced.
func grayRamp(width, height, depth int) impl.Png {
	h := impl.Head{Width: width, Height: height, Depth: depth, Color: 0}
	p := impl.Png{Head: h, Raster: impl.Raster{Width: width, Height: height, Depth: depth, Color: 0}}
	for at := range width * height {
		p.Raster.Samples = append(p.Raster.Samples, (at%width*3+at/width*5+1)%(1<<depth))
	}
	return p
}

// A right picture that can be written by none of the ways.
func TestBestPngOfNoWay(t *testing.T) {
	r := rand.New(rand.NewSource(314))
	wideAll := somePng(r, impl.Head{Width: 24, Height: 24, Depth: 16, Color: 6}, 0)
	laced := copyOfPng(wideAll)
	laced.Head.Lace = true
	heavy := tablePng()
	heavy.Kept = sameChunks(5, "tEXt", strings.Repeat("x", 2600))
	for _, p := range []impl.Png{wideAll, laced, heavy} {
		checkPng(t, "a picture that can't be written", p, true)
		checkUnwritten(t, "by no way", p)
	}
}

// What is written is no piece of the picture's own texts, nor of another answer.
func TestWritingSharesNoMemory(t *testing.T) {
	r := rand.New(rand.NewSource(315))
	p := tablePng()
	p.Kept = someKept(r, 5, 100)
	for level := range levelCount {
		first, _ := impl.BestPng(p, level)
		second, _ := impl.BestPng(p, level)
		third, _ := impl.WritePng(p, level, 0)
		fourth, _ := impl.WritePng(p, level, 0)
		for i, text := range []string{first, second, third, fourth} {
			for _, c := range p.Kept {
				if inMemoryOf(text, c.Name) || inMemoryOf(text, c.Data) {
					t.Fatalf("level %d: a file has a piece of what is kept", level)
				}
			}
			for _, other := range []string{first, second, third, fourth}[:i] {
				if inMemoryOf(text, other) || inMemoryOf(other, text) {
					t.Fatalf("level %d: two files share memory", level)
				}
			}
		}
	}
}

// Nothing is written into an argument, nor into the spare room behind it; a second call answers the same.
func TestWritingLeavesArgumentsAlone(t *testing.T) {
	r := rand.New(rand.NewSource(316))
	eachPng(317, func(p impl.Png) {
		for _, p := range []impl.Png{p, turnedPng(r, p)} {
			samples, allSamples := spared(p.Raster.Samples)
			clear, allClear := spared(p.Clear)
			allTable := append(slices.Clone(p.Table), impl.Rgb{R: 77}, impl.Rgb{G: 77})
			allKept := append(slices.Clone(p.Kept), impl.Chunk{Name: "spAr"}, impl.Chunk{Name: "roOm"}, impl.Chunk{Name: "roOm"})
			given := p
			given.Raster.Samples, given.Clear, given.Table, given.Kept = samples, clear, allTable[:len(p.Table)], allKept[:len(p.Kept)]
			level, way := r.Intn(levelCount+1), r.Intn(wayCount+1)
			file, ok := impl.WritePng(given, level, way)
			best, bestOk := impl.BestPng(given, level)
			again, againOk := impl.WritePng(given, level, way)
			bestAgain, bestAgainOk := impl.BestPng(given, level)
			if file != again || ok != againOk || best != bestAgain || bestOk != bestAgainOk {
				t.Fatalf("%+v: a second call answers otherwise", p.Head)
			}
			if !samePng(given, p) {
				t.Fatalf("%+v: an argument was changed", p.Head)
			}
			for _, all := range [][]int{allSamples, allClear} {
				if !slices.Equal(all[len(all)-3:], []int{77, 77, 77}) {
					t.Fatalf("%+v: the room behind became %v", p.Head, all[len(all)-3:])
				}
			}
			if !slices.Equal(allTable[len(p.Table):], []impl.Rgb{{R: 77}, {G: 77}}) || !slices.Equal(allKept[len(p.Kept):], []impl.Chunk{{Name: "spAr"}, {Name: "roOm"}, {Name: "roOm"}}) {
				t.Fatalf("%+v: the room behind a list was changed", p.Head)
			}
		}
	})
}

// What was told or refused ahead of a call changes nothing.
func TestWritingKeepsNothing(t *testing.T) {
	p, big := tablePng(), grayRamp(24, 24, 16)
	for range 3 {
		checkUnwritten(t, "nothing", impl.Png{})
		checkNoWrite(t, "no level", p, levelCount, 0)
		checkNoBestPng(t, "no level", p, levelCount)
		for level := range levelCount {
			checkP20(t, big, level)
			checkP20(t, p, level)
			checkP18(t, p, level, level)
		}
	}
}

// Calls at the same time, and again, answer the same, and leave none running.
func TestBestPngIsJoined(t *testing.T) {
	running := runtime.NumGoroutine()
	list := []impl.Png{{}, tablePng(), ripePng(0, 8), ripePng(6, 16), grayRamp(24, 24, 8), grayRamp(24, 24, 16), wide(2, 2, 8, nil, 1, 2, 3, 4, 5, 6)}
	var all sync.WaitGroup
	for _, p := range list {
		for level := range levelCount + 1 {
			files := slowFiles(p, level)
			want := ""
			if at := firstShortest(files); at >= 0 {
				want = files[at]
			}
			for range 8 {
				all.Go(func() {
					if best, ok := impl.BestPng(p, level); best != want || ok != (want != "") {
						t.Errorf("%+v, level %d: %.100q, %v; want %.100q", p.Head, level, best, ok, want)
					}
				})
			}
		}
	}
	all.Wait()
	for tries := 0; runtime.NumGoroutine() > running; tries++ {
		if tries == 1000000 {
			t.Fatalf("%d are running, not %d", runtime.NumGoroutine(), running)
		}
		runtime.Gosched()
	}
}
