package tests

import (
	"fmt"
	"image"
	"image/color"
	"image/png"
	"math"
	"math/rand"
	"regexp"
	"slices"
	"strconv"
	"strings"
	"testing"

	"loop.example/g00099/impl"
)

// lessRow is something that may be done to a picture, with a slow one beside it, and the colors and depths that it is for.
type lessRow struct {
	name       string
	less, slow func(impl.Png) (impl.Png, bool)
	kinds      [][2]int
}

func lessRows() []lessRow {
	return []lessRow{
		{"LessDepth", impl.LessDepth, slowLessDepth, [][2]int{{0, 16}, {2, 16}, {4, 16}, {6, 16}}},
		{"NoCover", impl.NoCover, slowNoCover, [][2]int{{4, 8}, {4, 16}, {6, 8}, {6, 16}}},
		{"NoColor", impl.NoColor, slowNoColor, [][2]int{{2, 8}, {2, 16}, {6, 8}, {6, 16}}},
		{"ToTable", impl.ToTable, slowToTable, [][2]int{{2, 8}, {6, 8}}},
		{"LessGray", impl.LessGray, slowLessGray, [][2]int{{0, 8}, {0, 4}, {0, 2}}},
	}
}

func (row lessRow) isFor(p impl.Png) bool {
	return slices.Contains(row.kinds, [2]int{p.Head.Color, p.Head.Depth})
}

var safeNames = regexp.MustCompile(`\A[A-Za-z]{2}[A-Z][a-z]\z`)

func slowTouchy(p impl.Png) bool {
	for _, c := range p.Kept {
		if slices.Contains([]string{"sBIT", "bKGD", "hIST"}, c.Name) || !safeNames.MatchString(c.Name) {
			return true
		}
	}
	return false
}

// inOther is the picture in another color and depth, with these samples and this one thing clear.
func inOther(p impl.Png, color, depth int, samples, clear []int) impl.Png {
	p.Head.Color, p.Head.Depth, p.Raster.Color, p.Raster.Depth = color, depth, color, depth
	p.Raster.Samples, p.Clear, p.Table, p.Kept = samples, clear, nil, slices.Clone(p.Kept)
	return p
}

// slowHalf spells the bits of a number: it is the first half of them, when the second half is the same.
func slowHalf(n, depth int) (int, bool) {
	spelt := strconv.FormatInt(1<<depth+int64(n), 2)[1:]
	half, err := strconv.ParseInt(spelt[:depth/2], 2, 64)
	return int(half), err == nil && spelt[:depth/2] == spelt[depth/2:]
}

func slowHalved(p impl.Png) (impl.Png, bool) {
	var lists [2][]int
	for i, list := range [][]int{p.Raster.Samples, p.Clear} {
		for _, n := range list {
			half, ok := slowHalf(n, p.Head.Depth)
			if !ok {
				return impl.Png{}, false
			}
			lists[i] = append(lists[i], half)
		}
	}
	return inOther(p, p.Head.Color, p.Head.Depth/2, lists[0], lists[1]), true
}

func slowLessDepth(p impl.Png) (impl.Png, bool) {
	if !slowPngOk(p) || slowTouchy(p) || p.Head.Depth != 16 {
		return impl.Png{}, false
	}
	return slowHalved(p)
}

func slowLessGray(p impl.Png) (impl.Png, bool) {
	if !slowPngOk(p) || slowTouchy(p) || p.Head.Color != 0 || p.Head.Depth == 1 || p.Head.Depth == 16 {
		return impl.Png{}, false
	}
	return slowHalved(p)
}

func slowNoCover(p impl.Png) (impl.Png, bool) {
	channels := colorOf(p.Head.Color).channels
	if !slowPngOk(p) || slowTouchy(p) || channels%2 != 0 {
		return impl.Png{}, false
	}
	var samples []int
	for i, n := range p.Raster.Samples {
		if i%channels < channels-1 {
			samples = append(samples, n)
		} else if n+1 != 1<<p.Head.Depth {
			return impl.Png{}, false
		}
	}
	return inOther(p, map[int]int{4: 0, 6: 2}[p.Head.Color], p.Head.Depth, samples, nil), true
}

func slowNoColor(p impl.Png) (impl.Png, bool) {
	channels := colorOf(p.Head.Color).channels
	if !slowPngOk(p) || slowTouchy(p) || channels < 3 {
		return impl.Png{}, false
	}
	var samples, clear []int
	for i := 0; i < len(p.Raster.Samples); i += channels {
		for channel := 1; channel < 3; channel++ {
			if p.Raster.Samples[i+channel] != p.Raster.Samples[i] {
				return impl.Png{}, false
			}
		}
		samples = append(samples, p.Raster.Samples[i])
		samples = append(samples, p.Raster.Samples[i+3:i+channels]...)
	}
	if len(p.Clear) == 3 {
		if slices.Max(p.Clear) != slices.Min(p.Clear) {
			return impl.Png{}, false
		}
		clear = []int{p.Clear[0]}
	}
	return inOther(p, map[int]int{2: 0, 6: 4}[p.Head.Color], p.Head.Depth, samples, clear), true
}

func slowToTable(p impl.Png) (impl.Png, bool) {
	channels := colorOf(p.Head.Color).channels
	if !slowPngOk(p) || slowTouchy(p) || channels < 3 || p.Head.Depth != 8 {
		return impl.Png{}, false
	}
	var met [][4]int
	var table []impl.Rgb
	var clear, places []int
	for i := 0; i < len(p.Raster.Samples); i += channels {
		m := [4]int(slowMeant(p, p.Raster.Samples[i:i+channels]))
		if !slices.Contains(met, m) {
			met, table, clear = append(met, m), append(table, impl.Rgb{R: m[0] >> 8, G: m[1] >> 8, B: m[2] >> 8}), append(clear, m[3]>>8)
		}
		places = append(places, slices.Index(met, m))
	}
	last := len(clear) - 1
	for last >= 0 && clear[last] == 255 {
		last--
	}
	for _, depth := range []int{1, 2, 4, 8} {
		if len(table) <= 1<<depth {
			p = inOther(p, 3, depth, places, clear[:last+1])
			p.Table = table
			return p, true
		}
	}
	return impl.Png{}, false
}

// slowReduced goes by the slow ones, and tells the names of those that could be done, too.
func slowReduced(p impl.Png) (impl.Png, string) {
	rows := lessRows()
	rows = append(rows, rows[4], rows[4])
	var names []string
	for _, row := range rows {
		if made, ok := row.slow(p); ok {
			p = made
			names = append(names, row.name)
		}
	}
	return p, strings.Join(names, " ")
}

func copyOfKept(list []impl.Chunk) []impl.Chunk {
	list = slices.Clone(list)
	for i, c := range list {
		list[i] = impl.Chunk{Name: strings.Clone(c.Name), Data: strings.Clone(c.Data)}
	}
	return list
}

// checkMeansThat wants a right picture that means what the other one does, by the program and by figures,
// with the same sides, passes and kept chunks.
func checkMeansThat(t *testing.T, name string, p, made impl.Png) {
	t.Helper()
	if !impl.PngOk(made) || !slowPngOk(made) {
		t.Fatalf("%s of %s: %s is not right", name, brief(p), brief(made))
	}
	was, _ := impl.MeaningOf(p)
	is, ok := impl.MeaningOf(made)
	if !ok || !impl.SameMeaning(was, is) || !impl.SameMeaning(is, was) || !sameMeant(slowMeaning(p), slowMeaning(made)) {
		t.Fatalf("%s of %s: %s means another thing", name, brief(p), brief(made))
	}
	if made.Head.Width != p.Head.Width || made.Head.Height != p.Head.Height || made.Head.Lace != p.Head.Lace || !slices.Equal(made.Kept, p.Kept) {
		t.Fatalf("%s of %s: %s has other sides, passes or kept chunks", name, brief(p), brief(made))
	}
}

func checkNoLess(t *testing.T, name string, row lessRow, p impl.Png) {
	t.Helper()
	if made, ok := row.less(p); ok || !samePng(made, impl.Png{}) {
		t.Fatalf("%s: %s of %s: %s, %v; want a refusal", name, row.name, brief(p), brief(made), ok)
	}
}

// checkStays wants each of the five false, and Reduced to be the picture as it is.
func checkStays(t *testing.T, name string, p impl.Png) {
	t.Helper()
	for _, row := range lessRows() {
		checkNoLess(t, name, row, p)
	}
	if got := impl.Reduced(p); !samePng(got, p) {
		t.Fatalf("%s: Reduced of %s: %s", name, brief(p), brief(got))
	}
}

// checkP19 wants of each way what the slow one does, and the meaning to stay; it tells what Reduced does one behind the other.
func checkP19(t *testing.T, p impl.Png) string {
	t.Helper()
	for _, row := range lessRows() {
		want, wantOk := row.slow(p)
		if wantOk && !row.isFor(p) {
			t.Fatalf("%s is not for %+v", row.name, p.Head)
		}
		made, ok := row.less(p)
		if ok != wantOk || !samePng(made, want) {
			t.Fatalf("%s of %s: %s, %v; want %s, %v", row.name, brief(p), brief(made), ok, brief(want), wantOk)
		}
		if ok {
			checkMeansThat(t, row.name, p, made)
		}
	}
	want, names := slowReduced(p)
	got := impl.Reduced(p)
	if !samePng(got, want) {
		t.Fatalf("Reduced of %s: %s; want %s by %q", brief(p), brief(got), brief(want), names)
	}
	if again := impl.Reduced(got); !samePng(again, got) {
		t.Fatalf("Reduced of %s: %s; of that %s", brief(p), brief(got), brief(again))
	}
	if slowPngOk(p) {
		checkMeansThat(t, "Reduced", p, got)
	}
	return names
}

// habit is what the pixels of a picture have in common: how many different ones there are at most, how many times the bits
// of their samples are their first half twice, whether they have no color, and whether they cover all.
type habit struct {
	pixels, twice int
	gray, whole   bool
}

// someHabits are those of any pixels, of half the bits and of black and white, and others.
func someHabits(r *rand.Rand, count int) []habit {
	list := []habit{{pixels: 577}, {pixels: 577, twice: 1, whole: true}, {pixels: 2, twice: 4, gray: true, whole: true}}
	for len(list) < count {
		list = append(list, habit{pixels: []int{1, 2, 3, 5, 17, 300, 577}[r.Intn(7)], twice: r.Intn(5), gray: r.Intn(2) == 0, whole: r.Intn(2) == 0})
	}
	return list[:count]
}

// sample has bits that are the first half of them twice, and that half again, so many times as the depth has halves.
func (h habit) sample(r *rand.Rand, depth int) int {
	bits := max(1, depth>>h.twice)
	n := r.Intn(1 << bits)
	for ; bits < depth; bits *= 2 {
		n |= n << bits
	}
	return n
}

func (h habit) pixel(r *rand.Rand, color, depth int) []int {
	channels := colorOf(color).channels
	numbers := make([]int, channels)
	for i := range numbers {
		numbers[i] = h.sample(r, depth)
	}
	if h.gray && channels >= 3 {
		numbers[1], numbers[2] = numbers[0], numbers[0]
	}
	if h.whole && channels%2 == 0 {
		numbers[channels-1] = 1<<depth - 1
	}
	return numbers
}

// habitPngs are pictures without a table, with nothing clear, and, where something may be, with a pixel of theirs, with one of their habit and with any.
func habitPngs(r *rand.Rand, head impl.Head, h habit) []impl.Png {
	var pixels [][]int
	for range h.pixels {
		pixels = append(pixels, h.pixel(r, head.Color, head.Depth))
	}
	p := impl.Png{Head: head, Raster: impl.Raster{Width: head.Width, Height: head.Height, Color: head.Color, Depth: head.Depth}}
	for at := range head.Width * head.Height {
		if h.pixels < 577 {
			at = r.Intn(h.pixels)
		}
		p.Raster.Samples = append(p.Raster.Samples, pixels[at]...)
	}
	list := []impl.Png{p}
	if head.Color == 0 || head.Color == 2 {
		for _, clear := range [][]int{pixels[0], h.pixel(r, head.Color, head.Depth), mixedSamples(r, colorOf(head.Color).channels, head.Depth)} {
			other := copyOfPng(p)
			other.Clear = slices.Clone(clear)
			list = append(list, other)
		}
	}
	return list
}

// safeKept are chunks that may be kept, whose names are all SafeToCopy.
func safeKept(r *rand.Rand, count int) []impl.Chunk {
	list := someKept(r, count, 20)
	for i, c := range list {
		list[i].Name = c.Name[:3] + strings.ToLower(c.Name[3:])
	}
	return list
}

// eachLessPng tells right pictures of each color and depth that go together, of many habits, sizes, with Lace and without.
func eachLessPng(seed int64, habits int, tell func(p impl.Png)) {
	r := rand.New(rand.NewSource(seed))
	for _, head := range someHeads() {
		for _, h := range someHabits(r, habits) {
			list := somePngs(r, head)
			if head.Color != impl.ColorTable {
				list = habitPngs(r, head, h)
			}
			for _, p := range list {
				if r.Intn(3) == 0 {
					p.Kept = safeKept(r, 1+r.Intn(3))
				}
				tell(p)
			}
		}
	}
}

func TestP19OfManyPictures(t *testing.T) {
	kinds, ways, done := map[string]int{}, map[string]int{}, map[string]int{}
	eachLessPng(260, 12, func(p impl.Png) {
		names := checkP19(t, p)
		kinds[fmt.Sprint(p.Head.Color, p.Head.Depth, p.Head.Lace, len(p.Clear) > 0)]++
		ways[names]++
		for _, row := range lessRows() {
			_, ok := row.less(p)
			if row.isFor(p) {
				done[fmt.Sprint(row.name, p.Head.Color, p.Head.Depth, p.Head.Lace, ok)]++
			}
		}
	})
	// Of 11 kinds something may be clear, of 4 nothing.
	if len(kinds) != 2*(2*11+4) {
		t.Errorf("%d kinds: %v", len(kinds), kinds)
	}
	// Each way for each of its kinds, with Lace and without, where it can be done and where it can't.
	if want := 2 * 2 * (4 + 4 + 4 + 2 + 3); len(done) != want {
		t.Errorf("%d, not %d: %v", len(done), want, done)
	}
	for _, names := range []string{
		"", "LessDepth", "NoCover", "NoColor", "ToTable", "LessGray",
		"LessGray LessGray", "LessGray LessGray LessGray",
		"LessDepth NoCover", "LessDepth NoColor", "LessDepth ToTable", "LessDepth LessGray",
		"NoCover NoColor", "NoCover ToTable", "NoColor LessGray", "NoCover LessGray",
		"LessDepth NoCover NoColor", "LessDepth NoCover ToTable", "NoCover NoColor LessGray",
		"LessDepth NoCover NoColor LessGray LessGray LessGray",
	} {
		if ways[names] == 0 {
			t.Errorf("no picture goes by %q", names)
		}
	}
}

// Pictures of which something was turned, so that they may be none.
func TestP19OfTurnedPictures(t *testing.T) {
	r := rand.New(rand.NewSource(261))
	seen := map[bool]int{}
	eachLessPng(262, 4, func(p impl.Png) {
		for range 4 {
			bad := turnedPng(r, p)
			seen[slowPngOk(bad)]++
			checkP19(t, bad)
			if !slowPngOk(bad) {
				checkStays(t, "a picture that is not right", bad)
			}
		}
	})
	if seen[true] < 1000 || seen[false] < 1000 {
		t.Errorf("%v are right and not", seen)
	}
}

// What is made is read by another reader as what it was.
func TestP19ForAnotherReader(t *testing.T) {
	told := 0
	eachLessPng(263, 3, func(p impl.Png) {
		for _, row := range lessRows() {
			if made, ok := row.less(p); ok {
				told++
				checkElsewhere(t, pngText(made))
			}
		}
		checkElsewhere(t, pngText(impl.Reduced(p)))
	})
	if told < 300 {
		t.Errorf("only %d pictures", told)
	}
}

// drawnElsewhere are pictures by the ways that they are to go, each with a drawing of another writer.
func drawnElsewhere() map[string]image.Image {
	box := image.Rect(0, 0, 16, 9)
	list := map[string]image.Image{
		"LessDepth ToTable": image.NewNRGBA64(box), "LessDepth": image.NewGray16(box), "LessDepth NoColor LessGray": image.NewRGBA64(box),
		"ToTable": image.NewNRGBA(box), "NoColor": image.NewRGBA(box), "LessGray": image.NewGray(box), "LessGray LessGray": image.NewGray(box),
		"LessGray LessGray LessGray": image.NewGray(box), "": image.NewGray16(box),
	}
	for y := range 9 {
		for x := range 16 {
			n, two, all := byte(x*16+y), byte(x%2*255), byte(255)
			list["LessDepth ToTable"].(*image.NRGBA64).SetNRGBA64(x, y, color.NRGBA64{R: uint16(x) * 257, G: 514, B: uint16(y) * 257, A: uint16(x*17) * 257})
			list["LessDepth"].(*image.Gray16).SetGray16(x, y, color.Gray16{Y: uint16(n) * 257})
			list["LessDepth NoColor LessGray"].(*image.RGBA64).SetRGBA64(x, y, color.RGBA64{R: uint16(x) * 4369, G: uint16(x) * 4369, B: uint16(x) * 4369, A: 65535})
			list["ToTable"].(*image.NRGBA).SetNRGBA(x, y, color.NRGBA{R: n, G: 7, B: two, A: byte(y * 31)})
			list["NoColor"].(*image.RGBA).SetRGBA(x, y, color.RGBA{R: n, G: n, B: n, A: all})
			list["LessGray"].(*image.Gray).SetGray(x, y, color.Gray{Y: byte(x * 17)})
			list["LessGray LessGray"].(*image.Gray).SetGray(x, y, color.Gray{Y: byte(x % 4 * 85)})
			list["LessGray LessGray LessGray"].(*image.Gray).SetGray(x, y, color.Gray{Y: two})
			list[""].(*image.Gray16).SetGray16(x, y, color.Gray16{Y: uint16(n)})
		}
	}
	return list
}

func TestP19OfAnotherWriter(t *testing.T) {
	files := map[string]string{}
	for names, picture := range drawnElsewhere() {
		files[names] = encodedElsewhere(t, picture, png.DefaultCompression)
	}
	for i, file := range writtenElsewhere(t) {
		files[fmt.Sprint("of any bytes ", i)] = file
	}
	for names, file := range files {
		p, code := impl.ReadPng(file)
		if code != 0 {
			t.Fatalf("code %d", code)
		}
		if got := checkP19(t, p); got != names && !strings.HasPrefix(names, "of any bytes") {
			t.Errorf("%+v goes by %q; want %q", p.Head, got, names)
		}
		checkElsewhere(t, pngText(impl.Reduced(p)))
	}
}

func TestTouchy(t *testing.T) {
	for _, c := range []struct {
		name string
		want bool
	}{
		{"sBIT", true}, {"bKGD", true}, {"hIST", true},
		{"tEXT", true}, {"gAMA", true}, {"aaAA", true}, {"zzZZ", true}, {"tRNS", true}, {"IHDR", true}, {"IDAT", true},
		{"tEXt", false}, {"pHYs", false}, {"aaAa", false}, {"zzZz", false}, {"sBIt", false}, {"bKGd", false}, {"hISt", false}, {"tRNs", false},
		{"TEXt", false}, {"IDAt", false}, {"AAAa", false},
		{"", true}, {"text", true}, {"tEx", true}, {"tEXtt", true}, {"tE1t", true}, {"1EXt", true}, {"tEX\x00", true}, {"\x00tEXt", true}, {"\xc3\xa9Xt", true},
	} {
		for _, count := range []int{1, 2, 31, 32, 33, 41, 100} {
			for _, at := range []int{0, count / 2, count - 1} {
				for _, p := range []impl.Png{{}, tablePng(), ripePng(2, 8)} {
					p.Kept = sameChunks(count, "tEXt", "abc")
					p.Kept[at] = impl.Chunk{Name: c.name}
					if got := impl.Touchy(p); got != c.want || got != slowTouchy(p) {
						t.Fatalf("%q at %d of %d: %v", c.name, at, count, got)
					}
				}
			}
		}
	}
}

func TestTouchyByEachByte(t *testing.T) {
	for at := range 4 {
		for n := range 256 {
			name := []byte("teXt")
			name[at] = byte(n)
			p := impl.Png{Kept: []impl.Chunk{{Name: string(name)}}}
			if impl.Touchy(p) != slowTouchy(p) {
				t.Errorf("%q: %v", name, impl.Touchy(p))
			}
		}
	}
	eachPng(264, func(p impl.Png) {
		if impl.Touchy(p) != slowTouchy(p) {
			t.Fatalf("%s: %v", brief(p.Kept), impl.Touchy(p))
		}
		for _, kept := range [][]impl.Chunk{nil, {}} {
			p.Kept = kept
			if impl.Touchy(p) {
				t.Fatal("nothing kept is touchy")
			}
		}
	})
}

// Data says nothing, be it a name that does.
func TestTouchyOfData(t *testing.T) {
	for _, data := range []string{"", "sBIT", "bKGD", "tEXT", "\x00"} {
		if impl.Touchy(impl.Png{Kept: []impl.Chunk{{Name: "tEXt", Data: data}}}) || !impl.Touchy(impl.Png{Kept: []impl.Chunk{{Name: "hIST", Data: data}}}) {
			t.Errorf("%q", data)
		}
	}
}

// ripePng is a picture to which all can be done that is for its color and depth: black and white in turn, and all of it covers.
func ripePng(color, depth int) impl.Png {
	most := 1<<depth - 1
	p := impl.Png{Head: impl.Head{Width: 3, Height: 2, Depth: depth, Color: color}}
	if color == impl.ColorTable {
		p.Table = []impl.Rgb{{}, {R: 255, G: 255, B: 255}}
		most = 1
	}
	channels := colorOf(color).channels
	for i := range 6 {
		numbers := slices.Repeat([]int{i % 2 * most}, channels)
		if channels%2 == 0 {
			numbers[channels-1] = most
		}
		p.Raster.Samples = append(p.Raster.Samples, numbers...)
	}
	p.Raster.Width, p.Raster.Height, p.Raster.Color, p.Raster.Depth = 3, 2, color, depth
	return p
}

// eachRipe tells for each way its ripe pictures, with something clear, where it may be, and without.
func eachRipe(t *testing.T, tell func(row lessRow, p impl.Png)) {
	t.Helper()
	for _, row := range lessRows() {
		for _, kind := range row.kinds {
			p := ripePng(kind[0], kind[1])
			clears := [][]int{nil}
			if channels := colorOf(kind[0]).channels; channels%2 == 1 {
				clears = append(clears, make([]int, channels))
			}
			for _, clear := range clears {
				p.Clear = clear
				if _, ok := row.less(p); !ok {
					t.Fatalf("%s of %s can't be done", row.name, brief(p))
				}
				tell(row, p)
			}
		}
	}
}

// Each way is for its colors and depths, and for no others.
func TestLessKinds(t *testing.T) {
	told := 0
	eachKind(func(color colorRow, depth int) {
		p := ripePng(color.color, depth)
		for _, kept := range [][]impl.Chunk{nil, {{Name: "tEXt", Data: "a"}, {Name: "prVt"}}} {
			p.Kept = kept
			checkP19(t, p)
			for _, row := range lessRows() {
				made, ok := row.less(p)
				if ok != row.isFor(p) {
					t.Errorf("%s of %+v: %v", row.name, p.Head, ok)
				}
				if !ok {
					checkNoLess(t, "another color or depth", row, p)
					told++
				} else if !slices.Equal(made.Kept, kept) {
					t.Errorf("%s of %+v: kept %v", row.name, p.Head, made.Kept)
				}
			}
		}
	})
	if want := 2 * (15*5 - 4 - 4 - 4 - 2 - 3); told != want {
		t.Errorf("%d refusals; want %d", told, want)
	}
}

func TestP19TouchyStays(t *testing.T) {
	names := []string{"sBIT", "bKGD", "hIST", "tEXT", "aaAA", "gAMA"}
	eachRipe(t, func(row lessRow, p impl.Png) {
		for _, name := range names {
			for _, count := range []int{1, 2, 3, 32} {
				for _, at := range []int{0, count - 1} {
					p.Kept = sameChunks(count, "tEXt", "abc")
					if made, ok := row.less(p); !ok || !slices.Equal(made.Kept, p.Kept) {
						t.Fatalf("%s: %d chunks that are SafeToCopy: %s, %v", row.name, count, brief(made), ok)
					}
					p.Kept[at].Name = name
					if !impl.PngOk(p) {
						t.Fatalf("%s is not right", brief(p))
					}
					checkStays(t, name, p)
				}
			}
		}
	})
	r := rand.New(rand.NewSource(265))
	eachLessPng(266, 3, func(p impl.Png) {
		p.Kept = append(safeKept(r, r.Intn(4)), impl.Chunk{Name: names[r.Intn(6)], Data: randomText(r, 9)})
		r.Shuffle(len(p.Kept), func(i, j int) { p.Kept[i], p.Kept[j] = p.Kept[j], p.Kept[i] })
		checkStays(t, "a touchy picture", p)
		checkP19(t, p)
	})
}

// spoiltPngs are the picture, each with one thing that is not right, but nothing that the ways ask for.
func spoiltPngs(p impl.Png) map[string]impl.Png {
	channels, last, most := colorOf(p.Head.Color).channels, len(p.Raster.Samples)-1, 1<<p.Head.Depth
	list := map[string]impl.Png{}
	spoil := func(name string, how func(p *impl.Png)) {
		bad := copyOfPng(p)
		how(&bad)
		list[name] = bad
	}
	spoil("no width", func(p *impl.Png) { p.Head.Width = 0 })
	spoil("too wide", func(p *impl.Png) { p.Head.Width, p.Raster.Width = 25, 25 })
	spoil("another width", func(p *impl.Png) { p.Head.Width++ })
	spoil("another height", func(p *impl.Png) { p.Head.Height-- })
	spoil("another width of the raster", func(p *impl.Png) { p.Raster.Width-- })
	spoil("another height of the raster", func(p *impl.Png) { p.Raster.Height++ })
	spoil("sides turned", func(p *impl.Png) { p.Raster.Width, p.Raster.Height = 2, 3 })
	spoil("another color of the raster", func(p *impl.Png) { p.Raster.Color ^= 2 })
	spoil("another depth of the raster", func(p *impl.Png) { p.Raster.Depth ^= 24 })
	spoil("no samples", func(p *impl.Png) { p.Raster.Samples = nil })
	spoil("a pixel less", func(p *impl.Png) { p.Raster.Samples = p.Raster.Samples[:last+1-channels] })
	spoil("a pixel more", func(p *impl.Png) { p.Raster.Samples = append(p.Raster.Samples, p.Raster.Samples[:channels]...) })
	spoil("a sample less", func(p *impl.Png) { p.Raster.Samples = p.Raster.Samples[:last] })
	spoil("a sample that is too much", func(p *impl.Png) { p.Raster.Samples[0] = most*most - 1 })
	spoil("a last sample that is too much", func(p *impl.Png) { p.Raster.Samples[last] = most * (most + 1) })
	spoil("a first pixel that is too much", func(p *impl.Png) { copy(p.Raster.Samples, slices.Repeat([]int{most*most - 1}, min(3, channels))) })
	spoil("a last pixel below 0", func(p *impl.Png) {
		copy(p.Raster.Samples[last+1-channels:], slices.Repeat([]int{1 - most}, min(3, channels)))
	})
	spoil("all below 0", func(p *impl.Png) {
		for i := range p.Raster.Samples {
			p.Raster.Samples[i] = -p.Raster.Samples[i]
		}
	})
	spoil("a table", func(p *impl.Png) { p.Table = tableOf(0, 1, 2) })
	spoil("clear numbers that are too many", func(p *impl.Png) { p.Clear = make([]int, 2*channels) })
	spoil("clear numbers that are too much", func(p *impl.Png) { p.Clear = slices.Repeat([]int{most*most - 1}, channels) })
	spoil("clear numbers below 0", func(p *impl.Png) { p.Clear = slices.Repeat([]int{1 - most}, channels) })
	spoil("two clear numbers", func(p *impl.Png) { p.Clear = []int{0, 0} })
	spoil("a chunk that is not needless", func(p *impl.Png) { p.Kept = []impl.Chunk{{Name: "TEXt"}} })
	spoil("too many chunks", func(p *impl.Png) { p.Kept = sameChunks(33, "tEXt", "") })
	spoil("too long a chunk", func(p *impl.Png) { p.Kept = sameChunks(1, "tEXt", strings.Repeat("x", 2601)) })
	return list
}

func TestLessOfSpoiltPictures(t *testing.T) {
	told := 0
	eachRipe(t, func(row lessRow, p impl.Png) {
		for name, bad := range spoiltPngs(p) {
			if slowPngOk(bad) || slowTouchy(bad) {
				t.Fatalf("%s: %s is right or touchy", name, brief(bad))
			}
			checkStays(t, name, bad)
			told++
		}
	})
	if told < 500 {
		t.Errorf("only %d", told)
	}
}

// Of wrong heads, lists of any numbers, and of nothing.
func TestLessOfNothing(t *testing.T) {
	checkStays(t, "the zero value", impl.Png{})
	for _, h := range wrongHeads() {
		for _, samples := range [][]int{nil, {0}, {0, 0, 0, 0}, oddNumbers(), make([]int, 576)} {
			for _, clear := range [][]int{nil, {0}, {0, 0, 0}, oddNumbers()} {
				p := impl.Png{Head: h, Clear: clear, Raster: impl.Raster{Width: h.Width, Height: h.Height, Color: h.Color, Depth: h.Depth, Samples: samples}}
				checkStays(t, "a wrong head", p)
			}
		}
		right := ripePng(2, 8)
		right.Head = h
		checkStays(t, "a wrong head of a right raster", right)
	}
}

func TestReducedOfWrongPicturesIsWhole(t *testing.T) {
	p := impl.Png{
		Head: impl.Head{Width: -1, Height: 99, Depth: 16, Color: 6, Lace: true}, Table: []impl.Rgb{{R: -1}, {G: 300}}, Clear: []int{-5, math.MaxInt},
		Raster: impl.Raster{Width: 7, Height: -7, Color: 9, Depth: math.MinInt, Samples: []int{257, -257, 1 << 40}},
		Kept:   []impl.Chunk{{}, {Name: "no name at all", Data: "x"}},
	}
	checkStays(t, "all wrong", p)
	p.Head = impl.Head{Width: 1, Height: 1, Depth: 8, Color: 2}
	checkStays(t, "a right head", p)
}

// checkLess wants the picture that is told in figures.
func checkLess(t *testing.T, row lessRow, p, want impl.Png) {
	t.Helper()
	made, ok := row.less(p)
	if !ok || !samePng(made, want) {
		t.Errorf("%s of %s: %s, %v; want %s", row.name, brief(p), brief(made), ok, brief(want))
		return
	}
	checkMeansThat(t, row.name, p, made)
}

// wide is a picture of one row.
func wide(width, color, depth int, clear []int, samples ...int) impl.Png {
	p := onePixel(color, depth, nil, clear, samples...)
	p.Head.Width, p.Raster.Width = width, width
	return p
}

func withTable(p impl.Png, table ...impl.Rgb) impl.Png {
	p.Table = table
	return p
}

func TestLessInFigures(t *testing.T) {
	rows := lessRows()
	depth, cover, color, table, gray := rows[0], rows[1], rows[2], rows[3], rows[4]
	checkLess(t, depth, wide(3, 0, 16, nil, 0, 257, 65535), wide(3, 0, 8, nil, 0, 1, 255))
	checkLess(t, depth, wide(2, 0, 16, []int{32896}, 32896, 514), wide(2, 0, 8, []int{128}, 128, 2))
	checkLess(t, depth, wide(1, 2, 16, []int{65535, 0, 257}, 257, 514, 65278), wide(1, 2, 8, []int{255, 0, 1}, 1, 2, 254))
	checkLess(t, depth, wide(2, 4, 16, nil, 0, 65535, 65535, 0), wide(2, 4, 8, nil, 0, 255, 255, 0))
	checkLess(t, depth, wide(1, 6, 16, nil, 257, 257, 257, 65535), wide(1, 6, 8, nil, 1, 1, 1, 255))
	checkLess(t, cover, wide(2, 4, 8, nil, 7, 255, 255, 255), wide(2, 0, 8, nil, 7, 255))
	checkLess(t, cover, wide(2, 4, 16, nil, 7, 65535, 255, 65535), wide(2, 0, 16, nil, 7, 255))
	checkLess(t, cover, wide(2, 6, 8, nil, 1, 2, 3, 255, 4, 5, 6, 255), wide(2, 2, 8, nil, 1, 2, 3, 4, 5, 6))
	checkLess(t, cover, wide(1, 6, 16, nil, 1, 2, 65534, 65535), wide(1, 2, 16, nil, 1, 2, 65534))
	checkLess(t, color, wide(2, 2, 8, nil, 7, 7, 7, 0, 0, 0), wide(2, 0, 8, nil, 7, 0))
	checkLess(t, color, wide(2, 2, 8, []int{7, 7, 7}, 7, 7, 7, 0, 0, 0), wide(2, 0, 8, []int{7}, 7, 0))
	checkLess(t, color, wide(1, 2, 16, []int{9, 9, 9}, 65534, 65534, 65534), wide(1, 0, 16, []int{9}, 65534))
	checkLess(t, color, wide(2, 6, 8, nil, 7, 7, 7, 1, 0, 0, 0, 2), wide(2, 4, 8, nil, 7, 1, 0, 2))
	checkLess(t, color, wide(1, 6, 16, nil, 7, 7, 7, 65535), wide(1, 4, 16, nil, 7, 65535))
	checkLess(t, table, wide(3, 2, 8, nil, 9, 8, 7, 1, 2, 3, 9, 8, 7), withTable(wide(3, 3, 1, nil, 0, 1, 0), impl.Rgb{R: 9, G: 8, B: 7}, impl.Rgb{R: 1, G: 2, B: 3}))
	checkLess(t, table, wide(2, 2, 8, []int{1, 2, 3}, 9, 8, 7, 1, 2, 3), withTable(wide(2, 3, 1, []int{255, 0}, 0, 1), impl.Rgb{R: 9, G: 8, B: 7}, impl.Rgb{R: 1, G: 2, B: 3}))
	checkLess(t, table, wide(3, 6, 8, nil, 9, 8, 7, 6, 9, 8, 7, 5, 9, 8, 7, 255), withTable(wide(3, 3, 2, []int{6, 5}, 0, 1, 2), slices.Repeat([]impl.Rgb{{R: 9, G: 8, B: 7}}, 3)...))
	checkLess(t, gray, wide(4, 0, 8, nil, 0, 17, 238, 255), wide(4, 0, 4, nil, 0, 1, 14, 15))
	checkLess(t, gray, wide(2, 0, 8, []int{34}, 34, 51), wide(2, 0, 4, []int{2}, 2, 3))
	checkLess(t, gray, wide(4, 0, 4, []int{10}, 0, 5, 10, 15), wide(4, 0, 2, []int{2}, 0, 1, 2, 3))
	checkLess(t, gray, wide(2, 0, 2, []int{3}, 0, 3), wide(2, 0, 1, []int{1}, 0, 1))
}

// checkOneAlone puts a number at each place of a list of the picture, and wants the way to be false then.
func checkOneAlone(t *testing.T, row lessRow, p impl.Png, list func(p impl.Png) []int, put func(n int) []int) {
	t.Helper()
	if made, ok := row.less(p); !ok {
		t.Fatalf("%s of %s: %s, %v", row.name, brief(p), brief(made), ok)
	}
	for at, was := range list(p) {
		for _, n := range put(was) {
			bad := copyOfPng(p)
			list(bad)[at] = n
			if !impl.PngOk(bad) {
				t.Fatalf("%s is not right", brief(bad))
			}
			checkNoLess(t, fmt.Sprintf("%d at %d", n, at), row, bad)
			checkP19(t, bad)
		}
	}
}

func samplesIn(p impl.Png) []int { return p.Raster.Samples }

func clearIn(p impl.Png) []int { return p.Clear }

// beside are the numbers next to one, and some farther ones, which are right samples.
func beside(n, depth int) []int {
	list := []int{n - 1, n + 1, n ^ 1<<(depth-1), n ^ 1<<(depth/2)}
	return slices.DeleteFunc(list, func(n int) bool { return n < 0 || n >= 1<<depth })
}

// Numbers of 16 bits, of which one alone is no multiple of 257, at each place of the picture and of what is clear.
func TestLessDepthOneAlone(t *testing.T) {
	r := rand.New(rand.NewSource(267))
	row := lessRows()[0]
	put := func(n int) []int { return beside(n, 16) }
	for _, color := range []int{0, 2, 4, 6} {
		for _, lace := range bothLaces() {
			for range 3 {
				head := impl.Head{Width: 5, Height: 3, Depth: 16, Color: color, Lace: lace}
				for _, p := range habitPngs(r, head, habit{pixels: 9, twice: 1}) {
					if _, ok := slowLessDepth(p); !ok {
						continue
					}
					checkOneAlone(t, row, p, samplesIn, put)
					checkOneAlone(t, row, p, clearIn, put)
				}
			}
		}
	}
}

// Every sample of 16 bits, by itself and as what is clear.
func TestLessDepthEverySample(t *testing.T) {
	for n := range 65536 {
		made, ok := impl.LessDepth(onePixel(0, 16, nil, nil, n))
		if ok != (n%257 == 0) || ok && (made.Head.Depth != 8 || made.Raster.Depth != 8 || made.Raster.Samples[0] != n/257) {
			t.Fatalf("%d: %v, %v", n, made, ok)
		}
		made, ok = impl.LessDepth(onePixel(0, 16, nil, []int{n}, 0))
		if ok != (n%257 == 0) || ok && !slices.Equal(made.Clear, []int{n / 257}) {
			t.Fatalf("clear %d: %v, %v", n, made, ok)
		}
	}
}

func TestLessGrayEverySample(t *testing.T) {
	for _, depth := range fiveDepths() {
		by := map[int]int{1: 0, 2: 3, 4: 5, 8: 17, 16: 0}[depth]
		for n := 0; n < 1<<depth; n += 1 + n/1000 {
			for clear := 0; clear < 1<<depth; clear += 1 + clear/20 {
				p := onePixel(0, depth, nil, []int{clear}, n)
				want := by > 0 && n%by == 0 && clear%by == 0
				made, ok := impl.LessGray(p)
				if ok != want || ok && (made.Head.Depth != depth/2 || made.Raster.Depth != depth/2 || made.Raster.Samples[0] != n/by || !slices.Equal(made.Clear, []int{clear / by})) {
					t.Fatalf("depth %d, %d, clear %d: %v, %v", depth, n, clear, made, ok)
				}
			}
			p := onePixel(0, depth, nil, nil, n)
			if made, ok := impl.LessGray(p); ok != (by > 0 && n%by == 0) || len(made.Clear) > 0 {
				t.Fatalf("depth %d, %d: %v, %v", depth, n, made, ok)
			}
		}
	}
}

func TestLessGrayOneAlone(t *testing.T) {
	r := rand.New(rand.NewSource(268))
	row := lessRows()[4]
	for _, depth := range []int{2, 4, 8} {
		put := func(n int) []int { return beside(n, depth) }
		for _, lace := range bothLaces() {
			for range 4 {
				for _, p := range habitPngs(r, impl.Head{Width: 5, Height: 3, Depth: depth, Lace: lace}, habit{pixels: 9, twice: 1}) {
					if _, ok := slowLessGray(p); !ok {
						continue
					}
					checkOneAlone(t, row, p, samplesIn, put)
					checkOneAlone(t, row, p, clearIn, put)
				}
			}
		}
	}
	for _, depth := range []int{1, 16} {
		for _, clear := range [][]int{nil, {0}} {
			checkNoLess(t, "nothing to be done", row, wide(2, 0, depth, clear, 0, 1<<depth-1))
		}
	}
}

// Pixels that all cover, but one: in both colors and both depths, at each place.
func TestNoCoverOneAlone(t *testing.T) {
	r := rand.New(rand.NewSource(269))
	row := lessRows()[1]
	for _, kind := range row.kinds {
		channels, most := colorOf(kind[0]).channels, 1<<kind[1]-1
		for _, lace := range bothLaces() {
			p := habitPngs(r, impl.Head{Width: 5, Height: 3, Depth: kind[1], Color: kind[0], Lace: lace}, habit{pixels: 9, whole: true})[0]
			checkP19(t, p)
			if _, ok := impl.NoCover(p); !ok {
				t.Fatalf("%s covers all", brief(p))
			}
			for pixel := range 15 {
				for _, n := range []int{most - 1, 0, 1, most / 2, 255, 254} {
					if n == most {
						continue
					}
					bad := copyOfPng(p)
					bad.Raster.Samples[pixel*channels+channels-1] = n
					checkNoLess(t, fmt.Sprintf("pixel %d covers %d", pixel, n), row, bad)
					checkP19(t, bad)
				}
				// What is not the last sample may be any.
				for channel := range channels - 1 {
					good := copyOfPng(p)
					good.Raster.Samples[pixel*channels+channel] = r.Intn(most)
					if _, ok := impl.NoCover(good); !ok {
						t.Fatalf("%s covers all", brief(good))
					}
				}
			}
		}
	}
}

// Pixels without color, but one: in both colors and both depths, at each place, in each of its three samples.
func TestNoColorOneAlone(t *testing.T) {
	r := rand.New(rand.NewSource(270))
	row := lessRows()[2]
	for _, kind := range row.kinds {
		channels := colorOf(kind[0]).channels
		for _, lace := range bothLaces() {
			p := habitPngs(r, impl.Head{Width: 5, Height: 3, Depth: kind[1], Color: kind[0], Lace: lace}, habit{pixels: 9, gray: true})[0]
			for at, was := range p.Raster.Samples {
				channel := at % channels
				for _, n := range beside(was, kind[1]) {
					other := copyOfPng(p)
					other.Raster.Samples[at] = n
					checkP19(t, other)
					made, ok := impl.NoColor(other)
					// How much a pixel covers is no color.
					if ok != (channel == 3) || ok && made.Raster.Samples[at/channels*2+1] != n {
						t.Fatalf("sample %d of pixel %d is %d: %s, %v", channel, at/channels, n, brief(made), ok)
					}
					if !ok {
						checkNoLess(t, "a color", row, other)
					}
				}
			}
		}
	}
}

// What is clear in pixels without color: with three numbers that are the same, met and not met, and with one that is another.
func TestNoColorClear(t *testing.T) {
	row := lessRows()[2]
	for _, depth := range []int{8, 16} {
		most := 1<<depth - 1
		for _, n := range []int{0, 1, 7, most - 1, most} {
			for _, clear := range []int{0, 1, 7, most - 1, most} {
				p := wide(2, 2, depth, []int{clear, clear, clear}, 7, 7, 7, n, n, n)
				checkLess(t, row, p, wide(2, 0, depth, []int{clear}, 7, n))
				checkOneAlone(t, row, p, clearIn, func(n int) []int { return beside(n, depth) })
				// Two that are others, in the same way.
				for at := range 3 {
					bad := copyOfPng(p)
					bad.Clear = slices.Repeat([]int{clear ^ 1}, 3)
					bad.Clear[at] = clear
					checkNoLess(t, "two others", row, bad)
				}
				bad := copyOfPng(p)
				bad.Clear = []int{5, 6, 8}
				checkNoLess(t, "three others", row, bad)
			}
		}
	}
}

// colorsOf are so many different colors with how much they cover.
func colorsOf(r *rand.Rand, count int, cover func(at int) int) ([]impl.Rgb, []int) {
	var table []impl.Rgb
	var covers []int
	for at, n := range r.Perm(256)[:min(count, 256)] {
		table = append(table, impl.Rgb{R: n, G: n * 7 % 256, B: r.Intn(256)})
		covers = append(covers, cover(at))
	}
	if count > 256 {
		table, covers = append(table, impl.Rgb{R: table[0].R, G: table[0].G ^ 1}), append(covers, cover(256))
	}
	return table, covers
}

// placesInTurn are places of so many colors, each met first behind all lesser ones.
func placesInTurn(r *rand.Rand, colors, size int) []int {
	list := make([]int, size)
	met := 0
	for i := range list {
		list[i] = r.Intn(max(1, met))
		if met < colors && (met == 0 || size-i == colors-met || r.Intn(3) == 0) {
			list[i], met = met, met+1
		}
	}
	return list
}

// inFull are the pixels that the places tell, in full color, with how much they cover or without.
func inFull(head impl.Head, table []impl.Rgb, covers, places []int) impl.Png {
	p := impl.Png{Head: head, Raster: impl.Raster{Width: head.Width, Height: head.Height, Color: head.Color, Depth: head.Depth}}
	for _, place := range places {
		c := table[place]
		p.Raster.Samples = append(p.Raster.Samples, c.R, c.G, c.B)
		if head.Color == 6 {
			p.Raster.Samples = append(p.Raster.Samples, covers[place])
		}
	}
	return p
}

// leastDepth has how many bits a place of so many colors needs.
func leastDepth(colors int) int {
	switch {
	case colors <= 2:
		return 1
	case colors <= 4:
		return 2
	case colors <= 16:
		return 4
	}
	return 8
}

// withoutWhole is without what is 255 at its end.
func withoutWhole(covers []int) []int {
	for i := len(covers) - 1; i >= 0; i-- {
		if covers[i] != 255 {
			return covers[:i+1]
		}
	}
	return nil
}

func colorCounts() []int { return []int{1, 2, 3, 4, 5, 15, 16, 17, 18, 128, 255, 256, 257} }

// checkToTable wants of a picture of these colors, in this order, the table of them, or, of more than 256, a refusal.
func checkToTable(t *testing.T, p impl.Png, table []impl.Rgb, covers, places []int) {
	t.Helper()
	row := lessRows()[3]
	checkP19(t, p)
	if len(table) > 256 {
		checkNoLess(t, fmt.Sprintf("%d colors", len(table)), row, p)
		return
	}
	want := inOther(p, 3, leastDepth(len(table)), places, withoutWhole(covers))
	want.Table = table
	checkLess(t, row, p, want)
}

// Tables of each number of colors are told first, and then in full color: they must come back, in the same order.
func TestToTableHowMany(t *testing.T) {
	r := rand.New(rand.NewSource(271))
	whole := func(int) int { return 255 }
	for _, colors := range colorCounts() {
		for _, lace := range bothLaces() {
			for _, size := range [][2]int{{24, 24}, {colors, 1}, {1, colors}, {24, 11}} {
				if size[0] > 24 || size[1] > 24 || size[0]*size[1] < colors {
					continue
				}
				for _, cover := range []func(int) int{whole, func(int) int { return r.Intn(256) }, func(int) int { return r.Intn(2) * 255 }} {
					table, covers := colorsOf(r, colors, cover)
					places := placesInTurn(r, colors, size[0]*size[1])
					head := impl.Head{Width: size[0], Height: size[1], Depth: 8, Color: 6, Lace: lace}
					checkToTable(t, inFull(head, table, covers, places), table, covers, places)
				}
				table, covers := colorsOf(r, colors, whole)
				places := placesInTurn(r, colors, size[0]*size[1])
				head := impl.Head{Width: size[0], Height: size[1], Depth: 8, Color: 2, Lace: lace}
				p := inFull(head, table, covers, places)
				checkToTable(t, p, table, covers, places)
				p.Clear = []int{table[0].R, table[0].G ^ 9, table[0].B}
				checkToTable(t, p, table, covers, places)
				met := r.Intn(colors)
				p.Clear = []int{table[met].R, table[met].G, table[met].B}
				covers[met] = 0
				checkToTable(t, p, table, covers, places)
			}
		}
	}
}

// Clear has 255 between others, at its end, everywhere and nowhere.
func TestToTableClear(t *testing.T) {
	for _, c := range []struct{ covers, want []int }{
		{[]int{255}, nil},
		{[]int{255, 255, 255, 255, 255}, nil},
		{[]int{0}, []int{0}},
		{[]int{254, 254, 254}, []int{254, 254, 254}},
		{[]int{1, 2, 3, 4, 5}, []int{1, 2, 3, 4, 5}},
		{[]int{0, 255}, []int{0}},
		{[]int{0, 255, 255, 255}, []int{0}},
		{[]int{7, 0, 255, 255}, []int{7, 0}},
		{[]int{255, 0}, []int{255, 0}},
		{[]int{255, 255, 254, 255}, []int{255, 255, 254}},
		{[]int{255, 3, 255, 4, 255}, []int{255, 3, 255, 4}},
		{[]int{255, 255, 255, 0}, []int{255, 255, 255, 0}},
		{[]int{0, 255, 255, 0, 255, 255, 9}, []int{0, 255, 255, 0, 255, 255, 9}},
	} {
		size := len(c.covers)
		table := tableOf(3, 5, size)
		places := everyPlace(size)
		p := inFull(impl.Head{Width: size, Height: 1, Depth: 8, Color: 6}, table, c.covers, places)
		made, ok := impl.ToTable(p)
		if !ok || !slices.Equal(made.Clear, c.want) || !slices.Equal(made.Table, table) {
			t.Errorf("%v: %s, %v; want %v", c.covers, brief(made), ok, c.want)
		}
		checkToTable(t, p, table, c.covers, places)
		if len(c.want) > 0 && made.Clear == nil {
			t.Errorf("%v: nothing is clear", c.covers)
		}
	}
}

// One color that covers more and less is as many colors of the table.
func TestToTableCoverAlone(t *testing.T) {
	r := rand.New(rand.NewSource(272))
	for _, colors := range colorCounts()[:12] {
		table := slices.Repeat([]impl.Rgb{{R: 200, G: 0, B: 1}}, colors)
		covers := r.Perm(256)[:colors]
		places := placesInTurn(r, colors, 24*24)
		p := inFull(impl.Head{Width: 24, Height: 24, Depth: 8, Color: 6}, table, covers, places)
		checkToTable(t, p, table, covers, places)
	}
	// All covers of one color and one more of another: 257 meanings.
	table := append(slices.Repeat([]impl.Rgb{{G: 9}}, 256), impl.Rgb{G: 8})
	covers := append(r.Perm(256), 17)
	places := placesInTurn(r, 257, 24*24)
	checkToTable(t, inFull(impl.Head{Width: 24, Height: 24, Depth: 8, Color: 6}, table, covers, places), table, covers, places)
}

// Colors that differ in one sample, by one, are others, however their bits lie.
func TestToTableColorsThatAreNear(t *testing.T) {
	for channel := range 4 {
		for n := range 255 {
			pixels := [2][]int{{100, 100, 100, 100}, {100, 100, 100, 100}}
			pixels[0][channel], pixels[1][channel] = n, n+1
			p := wide(2, 6, 8, nil, slices.Concat(pixels[0], pixels[1])...)
			made, ok := impl.ToTable(p)
			if !ok || len(made.Table) != 2 || !slices.Equal(made.Raster.Samples, []int{0, 1}) {
				t.Fatalf("%v: %s, %v", pixels, brief(made), ok)
			}
			checkP19(t, p)
		}
	}
	p := wide(4, 2, 8, nil, 1, 2, 3, 3, 2, 1, 2, 1, 3, 1, 2, 3)
	checkToTable(t, p, []impl.Rgb{{R: 1, G: 2, B: 3}, {R: 3, G: 2, B: 1}, {R: 2, G: 1, B: 3}}, []int{255, 255, 255}, []int{0, 1, 2, 0})
}

// Pictures of 16 bits are none for a table, be they of one color.
func TestToTableOfDepth16(t *testing.T) {
	row := lessRows()[3]
	for _, color := range []int{2, 6} {
		for _, n := range []int{0, 1, 257, 65535} {
			p := wide(1, color, 16, nil, slices.Repeat([]int{n}, colorOf(color).channels)...)
			checkNoLess(t, "16 bits", row, p)
			checkP19(t, p)
		}
	}
	for _, color := range []int{0, 4} {
		p := wide(1, color, 8, nil, make([]int, colorOf(color).channels)...)
		checkNoLess(t, "gray", row, p)
	}
	checkNoLess(t, "a table", row, tablePng())
}

// checkReduced wants just these ways to be gone, and the picture that is told in figures.
func checkReduced(t *testing.T, names string, p, want impl.Png) {
	t.Helper()
	if got := checkP19(t, p); got != names {
		t.Errorf("%s goes by %q; want %q", brief(p), got, names)
	}
	if got := impl.Reduced(p); !samePng(got, want) {
		t.Errorf("%s by %q: %s; want %s", brief(p), names, brief(got), brief(want))
	}
}

func TestReducedInFigures(t *testing.T) {
	table := []impl.Rgb{{R: 1, G: 2, B: 3}, {R: 9, G: 9, B: 9}}
	for _, lace := range bothLaces() {
		for _, kept := range [][]impl.Chunk{nil, {{Name: "tEXt", Data: "sBIT"}}} {
			for _, c := range []struct {
				names   string
				p, want impl.Png
			}{
				{"", wide(2, 0, 8, nil, 1, 2), wide(2, 0, 8, nil, 1, 2)},
				{"", wide(2, 0, 1, nil, 0, 1), wide(2, 0, 1, nil, 0, 1)},
				{"", wide(1, 4, 8, nil, 0, 0), wide(1, 4, 8, nil, 0, 0)},
				{"", wide(1, 2, 16, nil, 1, 2, 3), wide(1, 2, 16, nil, 1, 2, 3)},
				{"", withTable(wide(2, 3, 8, []int{255}, 0, 0), table...), withTable(wide(2, 3, 8, []int{255}, 0, 0), table...)},
				{"LessDepth", wide(1, 4, 16, nil, 257, 0), wide(1, 4, 8, nil, 1, 0)},
				{"LessDepth", wide(2, 0, 16, nil, 257, 0), wide(2, 0, 8, nil, 1, 0)},
				{"NoCover", wide(1, 6, 16, nil, 1, 2, 3, 65535), wide(1, 2, 16, nil, 1, 2, 3)},
				{"NoCover", wide(1, 4, 8, nil, 1, 255), wide(1, 0, 8, nil, 1)},
				{"NoColor", wide(1, 6, 16, nil, 1, 1, 1, 65534), wide(1, 4, 16, nil, 1, 65534)},
				{"NoColor", wide(2, 2, 8, []int{1, 1, 1}, 1, 1, 1, 0, 0, 0), wide(2, 0, 8, []int{1}, 1, 0)},
				{"ToTable", wide(2, 2, 8, nil, 1, 2, 3, 9, 9, 9), withTable(wide(2, 3, 1, nil, 0, 1), table...)},
				{"ToTable", wide(2, 2, 8, []int{0, 0, 1}, 1, 1, 1, 9, 9, 9), withTable(wide(2, 3, 1, nil, 0, 1), impl.Rgb{R: 1, G: 1, B: 1}, table[1])},
				{"LessGray", wide(2, 0, 8, nil, 17, 0), wide(2, 0, 4, nil, 1, 0)},
				{"LessGray", wide(2, 0, 2, nil, 3, 0), wide(2, 0, 1, nil, 1, 0)},
				{"LessGray LessGray", wide(2, 0, 8, nil, 85, 170), wide(2, 0, 2, nil, 1, 2)},
				{"LessGray LessGray", wide(2, 0, 4, []int{0}, 15, 0), wide(2, 0, 1, []int{0}, 1, 0)},
				{"LessGray LessGray LessGray", wide(2, 0, 8, []int{255}, 255, 0), wide(2, 0, 1, []int{1}, 1, 0)},
				{"LessGray LessGray", wide(2, 0, 8, []int{85}, 255, 0), wide(2, 0, 2, []int{1}, 3, 0)},
				{"NoCover ToTable", wide(2, 6, 8, nil, 1, 2, 3, 255, 9, 9, 9, 255), withTable(wide(2, 3, 1, nil, 0, 1), table...)},
				{"NoCover NoColor", wide(1, 6, 8, nil, 1, 1, 1, 255), wide(1, 0, 8, nil, 1)},
				{"LessDepth NoCover ToTable", wide(1, 6, 16, nil, 257, 514, 771, 65535), withTable(wide(1, 3, 1, nil, 0), table[0])},
				{"LessDepth ToTable", wide(1, 6, 16, nil, 257, 514, 771, 257), withTable(wide(1, 3, 1, []int{1}, 0), table[0])},
				{"LessDepth NoColor", wide(1, 2, 16, nil, 257, 257, 257), wide(1, 0, 8, nil, 1)},
				{"LessDepth NoCover NoColor LessGray LessGray LessGray", wide(1, 6, 16, nil, 65535, 65535, 65535, 65535), wide(1, 0, 1, nil, 1)},
				{"NoColor LessGray", wide(2, 2, 8, []int{34, 34, 34}, 17, 17, 17, 0, 0, 0), wide(2, 0, 4, []int{2}, 1, 0)},
				{"LessDepth NoCover LessGray", wide(2, 4, 16, nil, 4369, 65535, 0, 65535), wide(2, 0, 4, nil, 1, 0)},
			} {
				p, want := c.p, c.want
				p.Head.Lace, want.Head.Lace, p.Kept, want.Kept = lace, lace, kept, kept
				checkReduced(t, c.names, p, want)
			}
		}
	}
}

// As many meanings as a table has, and one more: the picture stays, or has no more than its cover less.
func TestReducedOfManyColors(t *testing.T) {
	r := rand.New(rand.NewSource(273))
	for _, colors := range []int{256, 257} {
		table, covers := colorsOf(r, colors, func(int) int { return 255 })
		places := placesInTurn(r, colors, 24*24)
		p := inFull(impl.Head{Width: 24, Height: 24, Depth: 8, Color: 6}, table, covers, places)
		full := inFull(impl.Head{Width: 24, Height: 24, Depth: 8, Color: 2}, table, covers, places)
		if colors == 257 {
			checkReduced(t, "NoCover", p, full)
			checkReduced(t, "", full, full)
			continue
		}
		want := inOther(p, 3, 8, places, nil)
		want.Table = table
		checkReduced(t, "NoCover ToTable", p, want)
		checkReduced(t, "ToTable", full, want)
	}
}

// overwritten has every list of the picture, and the spare room behind it, written over.
func overwritten(p impl.Png) {
	for _, list := range [][]int{p.Clear[:cap(p.Clear)], p.Raster.Samples[:cap(p.Raster.Samples)]} {
		for i := range list {
			list[i] = -7
		}
	}
	table, kept := p.Table[:cap(p.Table)], p.Kept[:cap(p.Kept)]
	for i := range table {
		table[i] = impl.Rgb{R: -9}
	}
	for i := range kept {
		kept[i] = impl.Chunk{Name: "none"}
	}
}

func sharesTexts(a, b []impl.Chunk) bool {
	for i, c := range a {
		if inMemoryOf(c.Name, b[i].Name) || inMemoryOf(c.Data, b[i].Data) {
			return true
		}
	}
	return false
}

// checkOwnMemory writes over one answer: that changes neither a second one nor the argument; nor does what is written over that change the second.
func checkOwnMemory(t *testing.T, name string, p impl.Png, less func(impl.Png) impl.Png) {
	t.Helper()
	argument := copyOfPng(p)
	argument.Kept = copyOfKept(p.Kept)
	first, second := less(argument), less(argument)
	want := copyOfPng(second)
	if sharesTexts(first.Kept, argument.Kept) || sharesTexts(first.Kept, second.Kept) {
		t.Fatalf("%s: a chunk that is kept is a piece of another one", name)
	}
	clear := first.Clear[:cap(first.Clear)]
	for i := range clear {
		clear[i] = -1
	}
	if !slices.Equal(first.Raster.Samples, want.Raster.Samples) {
		t.Fatalf("%s: what is clear lies ahead of the samples", name)
	}
	overwritten(first)
	if !samePng(argument, p) || !samePng(second, want) {
		t.Fatalf("%s of %s: the argument or a second answer was changed", name, brief(p))
	}
	overwritten(argument)
	if !samePng(second, want) {
		t.Fatalf("%s of %s: an answer was changed by the argument", name, brief(p))
	}
}

func TestLessSharesNoMemory(t *testing.T) {
	r := rand.New(rand.NewSource(274))
	reduced := 0
	check := func(p impl.Png) {
		for _, row := range lessRows() {
			checkOwnMemory(t, row.name, p, func(p impl.Png) impl.Png { made, _ := row.less(p); return made })
		}
		checkOwnMemory(t, "Reduced", p, impl.Reduced)
	}
	eachLessPng(275, 4, func(p impl.Png) {
		check(p)
		if !samePng(impl.Reduced(p), p) {
			reduced++
		}
		check(turnedPng(r, p))
		p.Kept = append(slices.Clone(p.Kept), impl.Chunk{Name: "sBIT", Data: "abc"})
		check(p)
	})
	if reduced < 100 {
		t.Errorf("only %d become others", reduced)
	}
}

// Nothing is written into an argument, nor into the spare room behind it.
func TestLessLeavesArgumentsAlone(t *testing.T) {
	r := rand.New(rand.NewSource(276))
	eachLessPng(277, 4, func(p impl.Png) {
		for _, p := range []impl.Png{p, turnedPng(r, p)} {
			samples, allSamples := spared(p.Raster.Samples)
			clear, allClear := spared(p.Clear)
			allTable := append(slices.Clone(p.Table), impl.Rgb{R: 77}, impl.Rgb{G: 77})
			allKept := append(slices.Clone(p.Kept), impl.Chunk{Name: "spAr"}, impl.Chunk{Name: "roOm"})
			given := p
			given.Raster.Samples, given.Clear, given.Table, given.Kept = samples, clear, allTable[:len(p.Table)], allKept[:len(p.Kept)]
			impl.Touchy(given)
			for _, row := range lessRows() {
				row.less(given)
			}
			impl.Reduced(given)
			if !samePng(given, p) {
				t.Fatalf("%+v: an argument was changed", p.Head)
			}
			for _, all := range [][]int{allSamples, allClear} {
				if !slices.Equal(all[len(all)-3:], []int{77, 77, 77}) {
					t.Fatalf("%+v: the room behind became %v", p.Head, all[len(all)-3:])
				}
			}
			if !slices.Equal(allTable[len(p.Table):], []impl.Rgb{{R: 77}, {G: 77}}) || !slices.Equal(allKept[len(p.Kept):], []impl.Chunk{{Name: "spAr"}, {Name: "roOm"}}) {
				t.Fatalf("%+v: the room behind a list was changed", p.Head)
			}
		}
	})
}

// What was told or refused ahead of a call changes nothing.
func TestLessKeepsNothing(t *testing.T) {
	p := ripePng(6, 16)
	touchy := copyOfPng(p)
	touchy.Kept = []impl.Chunk{{Name: "hIST"}}
	for range 3 {
		checkStays(t, "a touchy one", touchy)
		checkStays(t, "nothing", impl.Png{})
		checkReduced(t, "LessDepth NoCover NoColor LessGray LessGray LessGray", p, wideAs(p, 0, 1, 0, 1, 0, 1, 0, 1))
	}
}

// wideAs is the picture in another color and depth, with these samples.
func wideAs(p impl.Png, color, depth int, samples ...int) impl.Png {
	return inOther(p, color, depth, samples, nil)
}
