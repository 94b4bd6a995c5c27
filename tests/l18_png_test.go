package tests

import (
	"bytes"
	"encoding/hex"
	"fmt"
	"image"
	"image/color"
	"image/png"
	"math"
	"math/rand"
	"regexp"
	"slices"
	"strings"
	"testing"

	"loop.example/g00099/impl"
)

func samePng(a, b impl.Png) bool {
	return a.Head == b.Head && slices.Equal(a.Table, b.Table) && slices.Equal(a.Clear, b.Clear) && sameRaster(a.Raster, b.Raster) && slices.Equal(a.Kept, b.Kept)
}

func sameMeant(a, b impl.Meaning) bool {
	return a.Width == b.Width && a.Height == b.Height && slices.Equal(a.Pixels, b.Pixels) && slices.Equal(a.Kept, b.Kept)
}

func copyOfPng(p impl.Png) impl.Png {
	p.Table, p.Clear, p.Kept, p.Raster = slices.Clone(p.Table), slices.Clone(p.Clear), slices.Clone(p.Kept), copyOfRaster(p.Raster)
	return p
}

func copyOfMeaning(m impl.Meaning) impl.Meaning {
	m.Pixels, m.Kept = slices.Clone(m.Pixels), slices.Clone(m.Kept)
	return m
}

var (
	keptNames    = regexp.MustCompile(`\A[a-z][A-Za-z][A-Z][A-Za-z]\z`)
	rightLetters = regexp.MustCompile(`\AHk*P?k*T?k*D+k*E\z`)
)

func slowKeptOk(list []impl.Chunk) bool {
	for _, c := range list {
		if !keptNames.MatchString(c.Name) || c.Name == "tRNS" || len(c.Data) > 2600 {
			return false
		}
	}
	return len(list) <= 32
}

// brief is the beginning of what is shown of a value.
func brief(value any) string { return fmt.Sprintf("%+.300q", fmt.Sprintf("%+v", value)) }

func slowTableOk(h impl.Head, table []impl.Rgb) bool {
	if h.Color != 3 {
		return len(table) == 0
	}
	for _, c := range table {
		for _, n := range []int{c.R, c.G, c.B} {
			if n < 0 || n > 255 {
				return false
			}
		}
	}
	return len(table) >= 1 && len(table) <= map[int]int{1: 2, 2: 4, 4: 16, 8: 256}[h.Depth]
}

func slowPngOk(p impl.Png) bool {
	h, r := p.Head, p.Raster
	if h.Width < 1 || h.Width > 24 || h.Height < 1 || h.Height > 24 || !slices.Contains(colorOf(h.Color).depths, h.Depth) {
		return false
	}
	if r.Width != h.Width || r.Height != h.Height || r.Color != h.Color || r.Depth != h.Depth || len(r.Samples) != h.Width*h.Height*colorOf(h.Color).channels {
		return false
	}
	for _, n := range r.Samples {
		if !slowSample(n, h.Depth) || h.Color == 3 && n >= len(p.Table) {
			return false
		}
	}
	return slowTableOk(h, p.Table) && slowClearOk(h, len(p.Table), p.Clear) && slowKeptOk(p.Kept)
}

// stepsOf has of each depth how far two samples that are one apart are apart in what they mean.
var stepsOf = map[int]int{1: 65535, 2: 21845, 4: 4369, 8: 257, 16: 1}

// slowMeant is one pixel of a right picture in four numbers.
func slowMeant(p impl.Png, samples []int) []int {
	step := stepsOf[p.Head.Depth]
	covers := 65535
	if len(p.Clear) == len(samples) && !slices.ContainsFunc(everyPlace(len(samples)), func(i int) bool { return samples[i] != p.Clear[i] }) {
		covers = 0
	}
	switch p.Head.Color {
	case 0:
		return []int{samples[0] * step, samples[0] * step, samples[0] * step, covers}
	case 2:
		return []int{samples[0] * step, samples[1] * step, samples[2] * step, covers}
	case 4:
		return []int{samples[0] * step, samples[0] * step, samples[0] * step, samples[1] * step}
	case 6:
		return []int{samples[0] * step, samples[1] * step, samples[2] * step, samples[3] * step}
	}
	c := p.Table[samples[0]]
	covers = 65535
	for place, n := range p.Clear {
		if place == samples[0] {
			covers = 257 * n
		}
	}
	return []int{c.R * 257, c.G * 257, c.B * 257, covers}
}

func slowMeaning(p impl.Png) impl.Meaning {
	m := impl.Meaning{Width: p.Raster.Width, Height: p.Raster.Height, Kept: slices.Clone(p.Kept)}
	channels := colorOf(p.Head.Color).channels
	for i := range m.Width * m.Height {
		m.Pixels = append(m.Pixels, slowMeant(p, p.Raster.Samples[i*channels:(i+1)*channels])...)
	}
	return m
}

// neededNames are letters for the chunks that make a picture.
func neededNames() map[string]string {
	return map[string]string{"IHDR": "H", "PLTE": "P", "tRNS": "T", "IDAT": "D", "IEND": "E"}
}

// slowInOrder spells the names of all chunks in letters: k of one that may be kept, x of one that may not.
func slowInOrder(list []impl.Chunk) bool {
	var spelt strings.Builder
	for _, c := range list {
		letter := neededNames()[c.Name]
		switch {
		case letter != "":
		case c.Name[0] >= 'a':
			letter = "k"
		default:
			letter = "x"
		}
		spelt.WriteString(letter)
	}
	return rightLetters.MatchString(spelt.String())
}

// joined is Data of all chunks with the name, and whether there is one.
func joined(list []impl.Chunk, name string) (string, bool) {
	text, there := "", false
	for _, c := range list {
		if c.Name == name {
			text, there = text+c.Data, true
		}
	}
	return text, there
}

// slowReadPng goes through the codes one by one, each by the functions of the chapters ahead.
func slowReadPng(text string) (impl.Png, int) {
	list, code := slowChunks(text)
	if code != 0 {
		return impl.Png{}, 1
	}
	if !slowInOrder(list) {
		return impl.Png{}, 2
	}
	var p impl.Png
	var ok bool
	if p.Head, ok = impl.ReadHead(list[0].Data); !ok {
		return impl.Png{}, 3
	}
	h := p.Head
	colors, there := joined(list, "PLTE")
	p.Table, ok = impl.ReadTable(colors)
	if there != ok || there != (h.Color == 3) || len(p.Table) > 1<<h.Depth {
		return impl.Png{}, 4
	}
	clear, there := joined(list, "tRNS")
	if p.Clear, ok = impl.ReadClear(h, len(p.Table), clear); ok != there {
		return impl.Png{}, 5
	}
	packed, _ := joined(list, "IDAT")
	lines, code := slowZlibRead(packed, impl.ScanBytes(h.Width, h.Height, h.Color, h.Depth, h.Lace))
	if code != 0 {
		return impl.Png{}, 6
	}
	if p.Raster, code = impl.ScanRead(lines, h.Width, h.Height, h.Color, h.Depth, h.Lace); code != 0 {
		return impl.Png{}, 7
	}
	if h.Color == 3 && slices.Max(p.Raster.Samples) >= len(p.Table) {
		return impl.Png{}, 8
	}
	p.Kept = slices.DeleteFunc(slices.Clone(list), func(c impl.Chunk) bool { return neededNames()[c.Name] != "" })
	if list[len(list)-1].Data != "" || !slowPngOk(p) {
		return impl.Png{}, 9
	}
	return p, 0
}

// clearsOf are right lists of what is clear: none, and such as the picture has in it and not.
func clearsOf(r *rand.Rand, p impl.Png) [][]int {
	channels := colorOf(p.Head.Color).channels
	switch p.Head.Color {
	case 0, 2:
		met := r.Intn(p.Head.Width*p.Head.Height) * channels
		return [][]int{nil, slices.Clone(p.Raster.Samples[met : met+channels]), mixedSamples(r, channels, p.Head.Depth)}
	case 3:
		size := len(p.Table)
		return [][]int{nil, mixedSamples(r, 1, 8), mixedSamples(r, 1+r.Intn(size), 8), mixedSamples(r, size, 8)}
	}
	return [][]int{nil}
}

// somePng is a right picture with a table of so many colours, if its color asks for one, with nothing clear and nothing kept.
func somePng(r *rand.Rand, h impl.Head, colors int) impl.Png {
	p := impl.Png{Head: h, Raster: rasterOf(r, h.Width, h.Height, colorOf(h.Color), h.Depth)}
	if h.Color != 3 {
		return p
	}
	p.Table = tableOf(r.Intn(256), 1+2*r.Intn(128), colors)
	for i := range p.Raster.Samples {
		p.Raster.Samples[i] = r.Intn(colors)
	}
	return p
}

func somePngs(r *rand.Rand, h impl.Head) []impl.Png {
	counts := []int{0}
	if h.Color == 3 {
		counts = []int{1, 1<<h.Depth - 1, 1 << h.Depth}
	}
	var list []impl.Png
	for _, colors := range counts {
		p := somePng(r, h, colors)
		for _, clear := range clearsOf(r, p) {
			p.Clear = clear
			list = append(list, copyOfPng(p))
		}
	}
	return list
}

// eachPng tells right pictures of each color and depth, of several sizes, with Lace and without, with something clear and without, with chunks that are kept and without.
func eachPng(seed int64, tell func(p impl.Png)) {
	r := rand.New(rand.NewSource(seed))
	for _, h := range someHeads() {
		for _, p := range somePngs(r, h) {
			tell(p)
			p.Kept = someKept(r, 1+r.Intn(4), 40)
			tell(p)
		}
	}
}

// someKept are chunks that may be kept.
func someKept(r *rand.Rand, count, most int) []impl.Chunk {
	list := someChunks(r, count, most)
	for i := range list {
		list[i].Name = strings.ToLower(list[i].Name[:1]) + list[i].Name[1:]
	}
	return list
}

// piecesOf are chunks that make a picture of these lines, the kept ones ahead of the data.
func piecesOf(p impl.Png, lines string) []impl.Chunk {
	list := []impl.Chunk{{Name: "IHDR", Data: slowHeadText(p.Head)}}
	if len(p.Table) > 0 {
		list = append(list, impl.Chunk{Name: "PLTE", Data: slowTableText(p.Table)})
	}
	if len(p.Clear) > 0 {
		list = append(list, impl.Chunk{Name: "tRNS", Data: slowClearText(p.Head, p.Clear)})
	}
	list = append(list, p.Kept...)
	return append(list, impl.Chunk{Name: "IDAT", Data: storedZlib(lines)}, impl.Chunk{Name: "IEND"})
}

func linesOf(p impl.Png, way int) string { return slowScan(p.Raster, p.Head.Lace, way) }

func pngText(p impl.Png) string { return fileOf(piecesOf(p, linesOf(p, 0))...) }

// tablePng has two bits for each sample, a table of three colours, of which one is clear, and one chunk that is kept.
func tablePng() impl.Png {
	return impl.Png{
		Head:   impl.Head{Width: 3, Height: 2, Depth: 2, Color: impl.ColorTable},
		Table:  []impl.Rgb{{R: 1, G: 2, B: 3}, {R: 255, G: 254, B: 253}, {R: 0, G: 128, B: 7}},
		Clear:  []int{0, 100},
		Raster: impl.Raster{Width: 3, Height: 2, Color: impl.ColorTable, Depth: 2, Samples: []int{0, 1, 2, 2, 1, 0}},
		Kept:   []impl.Chunk{{Name: "tEXt", Data: "a\x00b"}},
	}
}

func checkPng(t *testing.T, name string, p impl.Png, want bool) {
	t.Helper()
	if slowPngOk(p) != want {
		t.Fatalf("%s is wanted to be %v", name, want)
	}
	if impl.PngOk(p) != want {
		t.Errorf("%s: %+v with %d colours, %d samples, %d kept: not %v", name, p.Head, len(p.Table), len(p.Raster.Samples), len(p.Kept), want)
	}
	if !want {
		checkNoMeaning(t, name, p)
	}
}

func checkNoMeaning(t *testing.T, name string, p impl.Png) {
	t.Helper()
	if m, ok := impl.MeaningOf(p); ok || !sameMeant(m, impl.Meaning{}) {
		t.Errorf("%s: %s, %v; want a refusal", name, brief(m), ok)
	}
}

func checkReadPng(t *testing.T, name, text string, want impl.Png) {
	t.Helper()
	p, code := impl.ReadPng(text)
	if code != 0 || !samePng(p, want) {
		t.Fatalf("%s: %s, code %d; want %s", name, brief(p), code, brief(want))
	}
	if !impl.PngOk(p) {
		t.Fatalf("%s: %s is read, and is not right", name, brief(p))
	}
}

func checkNoPng(t *testing.T, name, text string, want int) {
	t.Helper()
	if p, code := impl.ReadPng(text); code != want || !samePng(p, impl.Png{}) {
		t.Errorf("%s: %s, code %d; want code %d", name, brief(p), code, want)
	}
}

// checkSlowPng tells the code, so that a test can see that it came to all of them.
func checkSlowPng(t *testing.T, text string) int {
	t.Helper()
	p, code := impl.ReadPng(text)
	if want, wantCode := slowReadPng(text); code != wantCode || !samePng(p, want) {
		t.Fatalf("%.200q: %s, code %d; want %s, code %d", text, brief(p), code, brief(want), wantCode)
	}
	if (code == 0) != impl.PngOk(p) {
		t.Fatalf("%.200q: %s, code %d, and right is not as it is read", text, brief(p), code)
	}
	return code
}

// checkP27 wants four numbers for each pixel of a right picture, as many as its head tells, and the same again.
func checkP27(t *testing.T, p impl.Png) impl.Meaning {
	t.Helper()
	m, ok := impl.MeaningOf(p)
	if !ok || m.Width != p.Head.Width || m.Height != p.Head.Height || len(m.Pixels) != 4*m.Width*m.Height {
		t.Fatalf("%+v: %d by %d with %d numbers, %v", p.Head, m.Width, m.Height, len(m.Pixels), ok)
	}
	for i, n := range m.Pixels {
		if n < 0 || n > 65535 {
			t.Fatalf("%+v: number %d is %d", p.Head, i, n)
		}
	}
	again, _ := impl.MeaningOf(p)
	if !impl.SameMeaning(m, m) || !impl.SameMeaning(m, again) || !impl.SameMeaning(again, m) {
		t.Fatalf("%+v: %s is not the same as itself", p.Head, brief(m))
	}
	if want := slowMeaning(p); !sameMeant(m, want) {
		t.Fatalf("%+v: %s; want %s", p.Head, brief(m), brief(want))
	}
	return m
}

func TestP27Meanings(t *testing.T) {
	kinds := map[string]int{}
	eachPng(220, func(p impl.Png) {
		kinds[fmt.Sprint(p.Head.Color, p.Head.Depth, p.Head.Lace, len(p.Clear) > 0, len(p.Kept) > 0)]++
		checkPng(t, "a right picture", p, true)
		checkP27(t, p)
	})
	// Of 11 kinds something may be clear, of 4 nothing.
	if len(kinds) != 2*2*(2*11+4) {
		t.Errorf("%d kinds: %v", len(kinds), kinds)
	}
}

func TestP27SameFromBothSides(t *testing.T) {
	var list []impl.Meaning
	eachPng(221, func(p impl.Png) {
		if p.Head.Width*p.Head.Height == 1 {
			list = append(list, checkP27(t, p))
		}
	})
	list = append(list, impl.Meaning{}, impl.Meaning{Width: 1, Height: 1}, impl.Meaning{Pixels: []int{-1}}, impl.Meaning{Kept: []impl.Chunk{{}}})
	same, other := 0, 0
	for _, a := range list {
		for _, b := range list {
			got := impl.SameMeaning(a, b)
			if got != impl.SameMeaning(b, a) || got != sameMeant(a, b) {
				t.Fatalf("%v and %v: %v", a, b, got)
			}
			if got {
				same++
			} else {
				other++
			}
		}
	}
	if same <= len(list) || other == 0 {
		t.Errorf("of %d meanings %d pairs are the same, %d others", len(list), same, other)
	}
}

// Each file of a right picture, by each way, is read again, as is one in several pieces of data.
func TestP27FilesAreRight(t *testing.T) {
	r := rand.New(rand.NewSource(222))
	eachPng(223, func(p impl.Png) {
		lines := linesOf(p, r.Intn(6))
		list := piecesOf(p, lines)
		checkReadPng(t, "a file", fileOf(list...), p)
		checkReadPng(t, "mixed kinds", fileOf(piecesOf(p, mixedScan(r, p.Raster, p.Head.Lace))...), p)
		if packed, ok := impl.ZlibOf(lines, r.Intn(4)); ok {
			list[len(list)-2].Data = packed
			checkReadPng(t, "packed by a level", fileOf(list...), p)
			list = withDataCut(list, r.Intn(len(packed)), r.Intn(len(packed)))
			checkReadPng(t, "in pieces", fileOf(list...), p)
		}
	})
}

// withDataCut has the data, which stands next to the end, in three chunks, cut at these places.
func withDataCut(list []impl.Chunk, a, b int) []impl.Chunk {
	at := len(list) - 2
	data, first, second := list[at].Data, min(a, b), max(a, b)
	return slices.Replace(slices.Clone(list), at, at+1,
		impl.Chunk{Name: "IDAT", Data: data[:first]}, impl.Chunk{Name: "IDAT", Data: data[first:second]}, impl.Chunk{Name: "IDAT", Data: data[second:]})
}

func TestPngOkOfNothing(t *testing.T) {
	checkPng(t, "the zero value", impl.Png{}, false)
	checkPng(t, "one pixel", impl.Png{Head: impl.Head{Width: 1, Height: 1, Depth: 1}, Raster: impl.Raster{Width: 1, Height: 1, Depth: 1, Samples: []int{0}}}, true)
	checkPng(t, "a table of three colours", tablePng(), true)
	bare := tablePng()
	bare.Clear, bare.Kept = nil, nil
	checkPng(t, "nothing clear, nothing kept", bare, true)
	bare.Clear, bare.Kept = []int{}, []impl.Chunk{}
	checkPng(t, "empty lists", bare, true)
}

// A head that is not right, with the raster that it would have, and with another one.
func TestPngOkHead(t *testing.T) {
	for _, h := range wrongHeads() {
		p := impl.Png{Head: h, Raster: impl.Raster{Width: h.Width, Height: h.Height, Color: h.Color, Depth: h.Depth}}
		if h.Width >= 0 && h.Width < 300 && h.Height >= 0 && h.Height < 300 {
			p.Raster.Samples = make([]int, h.Width*h.Height*colorOf(h.Color).channels)
		}
		for _, table := range [][]impl.Rgb{nil, tableOf(0, 1, 2)} {
			p.Table = table
			checkPng(t, "a wrong head", p, false)
			p.Head.Lace = true
			checkPng(t, "a wrong head with lace", p, false)
		}
		right := tablePng()
		right.Head = h
		checkPng(t, "a wrong head of another raster", right, false)
	}
	for _, side := range []int{23, 24, 25, 26} {
		p := somePng(rand.New(rand.NewSource(224)), impl.Head{Width: side, Height: 1, Depth: 8}, 0)
		checkPng(t, fmt.Sprintf("%d wide", side), p, side < 25)
		p = somePng(rand.New(rand.NewSource(224)), impl.Head{Width: 1, Height: side, Depth: 8}, 0)
		checkPng(t, fmt.Sprintf("%d high", side), p, side < 25)
	}
}

// A raster that is not right, in an otherwise right picture.
func TestPngOkRaster(t *testing.T) {
	eachPng(225, func(p impl.Png) {
		if p.Head.Width != 7 {
			return
		}
		last := len(p.Raster.Samples) - 1
		for _, n := range []int{-1, math.MinInt, 1 << p.Head.Depth, 1<<p.Head.Depth + 1, 1<<32 + 1, math.MaxInt} {
			for _, at := range []int{0, last / 2, last} {
				bad := copyOfPng(p)
				bad.Raster.Samples[at] = n
				checkPng(t, fmt.Sprintf("the sample %d", n), bad, false)
			}
		}
		for _, samples := range [][]int{nil, p.Raster.Samples[:last], p.Raster.Samples[:1], append(slices.Clone(p.Raster.Samples), 0), append(slices.Clone(p.Raster.Samples), p.Raster.Samples...)} {
			bad := p
			bad.Raster.Samples = samples
			checkPng(t, fmt.Sprintf("%d samples", len(samples)), bad, false)
		}
		bad := p
		bad.Raster = impl.Raster{}
		checkPng(t, "no raster", bad, false)
	})
}

// A right raster that is another one than the head tells: sides turned, another color or depth with as many samples.
func TestPngOkRasterOfAnotherHead(t *testing.T) {
	r := rand.New(rand.NewSource(226))
	told := 0
	for _, h := range someHeads() {
		for _, p := range somePngs(r, h) {
			for _, other := range someHeads() {
				if other.Width == h.Width && other.Height == h.Height && other.Color == h.Color && other.Depth == h.Depth {
					continue
				}
				bad := p
				bad.Raster = rasterOf(r, other.Width, other.Height, colorOf(other.Color), other.Depth)
				clear(bad.Raster.Samples)
				if !impl.RasterOk(bad.Raster) {
					t.Fatalf("%+v has no right raster", other)
				}
				checkPng(t, "another raster", bad, false)
				if len(bad.Raster.Samples) == len(p.Raster.Samples) {
					told++
				}
			}
		}
	}
	if told < 500 {
		t.Errorf("only %d have as many samples", told)
	}
	p := tablePng()
	p.Raster.Width, p.Raster.Height = 2, 3
	checkPng(t, "sides turned", p, false)
	p.Head.Width, p.Head.Height = 2, 3
	checkPng(t, "sides of both turned", p, true)
	p.Raster.Depth = 4
	checkPng(t, "another depth", p, false)
	p.Head.Depth = 4
	checkPng(t, "another depth of both", p, true)
	p.Raster.Color = impl.ColorGray
	checkPng(t, "another color", p, false)
	p.Head.Color, p.Table, p.Clear = impl.ColorGray, nil, []int{7}
	checkPng(t, "another color of both", p, true)
}

func TestPngOkTable(t *testing.T) {
	r := rand.New(rand.NewSource(227))
	eachKind(func(row colorRow, depth int) {
		p := somePng(r, impl.Head{Width: 5, Height: 3, Depth: depth, Color: row.color}, 1)
		most := 0
		if row.color == impl.ColorTable {
			most = 1 << depth
		}
		for _, size := range []int{0, 1, 2, 3, 4, 5, 15, 16, 17, 255, 256, 257, 512, 65536} {
			p.Table = tableOf(0, 1, size)
			checkPng(t, fmt.Sprintf("%d colours", size), p, size <= most && (most == 0 || size > 0))
		}
		p.Table = []impl.Rgb{}
		checkPng(t, "an empty table", p, most == 0)
	})
}

func TestPngOkColors(t *testing.T) {
	for _, depth := range []int{1, 2, 4, 8} {
		p := somePng(rand.New(rand.NewSource(228)), impl.Head{Width: 5, Height: 3, Depth: depth, Color: 3}, 1<<depth)
		for _, at := range []int{0, len(p.Table) / 2, len(p.Table) - 1} {
			for _, n := range append(oddNumbers(), -256, 254, 255, 256, 257, 1<<32+255, 65535) {
				for place := range 3 {
					bad := copyOfPng(p)
					*[]*int{&bad.Table[at].R, &bad.Table[at].G, &bad.Table[at].B}[place] = n
					checkPng(t, fmt.Sprintf("%d at place %d of %d", n, place, at), bad, n >= 0 && n <= 255)
				}
			}
		}
	}
}

func TestPngOkClear(t *testing.T) {
	r := rand.New(rand.NewSource(229))
	seen := map[bool]int{}
	eachKind(func(row colorRow, depth int) {
		p := somePng(r, impl.Head{Width: 5, Height: 3, Depth: depth, Color: row.color}, min(3, 1<<depth))
		for size := 1; size < 6; size++ {
			for _, n := range []int{-1, 0, 1, 2, 3, 4, 15, 16, 254, 255, 256, 65535, 65536, math.MaxInt, math.MinInt} {
				for _, at := range []int{0, size - 1} {
					p.Clear = make([]int, size)
					p.Clear[at] = n
					want := slowClearOk(p.Head, len(p.Table), p.Clear)
					checkPng(t, fmt.Sprintf("clear %v of color %d, depth %d", p.Clear, row.color, depth), p, want)
					seen[want]++
				}
			}
		}
	})
	if seen[true] < 50 || seen[false] < 500 {
		t.Errorf("%v lists are right and not", seen)
	}
}

// Each sample is a place of the table, wherever it stands.
func TestPngOkPlaces(t *testing.T) {
	r := rand.New(rand.NewSource(230))
	for _, depth := range []int{1, 2, 4, 8} {
		for colors := 1; colors <= 1<<depth; colors++ {
			p := somePng(r, impl.Head{Width: 5, Height: 3, Depth: depth, Color: 3}, colors)
			for at := range p.Raster.Samples {
				for _, n := range []int{0, colors - 1, colors, colors + 1, 1<<depth - 1} {
					bad := copyOfPng(p)
					bad.Raster.Samples[at] = n
					checkPng(t, fmt.Sprintf("the sample %d of %d colours", n, colors), bad, n < colors)
				}
			}
		}
	}
}

func TestPngOkKept(t *testing.T) {
	for _, c := range []struct {
		name string
		want bool
	}{
		{"tEXt", true}, {"tEXT", true}, {"bKGD", true}, {"sBIT", true}, {"hIST", true}, {"aaAa", true}, {"zzZz", true}, {"trNS", true}, {"tRNs", true},
		{"iHDR", true}, {"pLTE", true}, {"iDAT", true}, {"iEND", true}, {"tRNS", false},
		{"TRNS", false}, {"IHDR", false}, {"PLTE", false}, {"IDAT", false}, {"IEND", false}, {"TEXt", false}, {"AAAA", false}, {"ZzZz", false},
		{"text", false}, {"tEx", false}, {"tEXtt", false}, {"", false}, {"tE1t", false}, {"tEX1", false}, {"1EXt", false}, {"tEXt\x00", false}, {"\xc3\xa9Xt", false},
	} {
		for _, count := range []int{1, 2, 31, 32} {
			for _, at := range []int{0, count / 2, count - 1} {
				p := tablePng()
				p.Kept = sameChunks(count, "tEXt", "")
				p.Kept[at].Name = c.name
				checkPng(t, fmt.Sprintf("%q at %d of %d", c.name, at, count), p, c.want)
			}
		}
	}
	eachPng(231, func(p impl.Png) {
		for _, count := range []int{0, 31, 32, 33, 40, 41, 1000} {
			p.Kept = sameChunks(count, "tEXt", "abc")
			checkPng(t, fmt.Sprintf("%d kept", count), p, count <= 32)
		}
	})
}

func TestPngOkKeptData(t *testing.T) {
	for _, size := range []int{0, 1, 2599, 2600, 2601, 12000, 1 << 20} {
		for _, count := range []int{1, 2, 32} {
			for _, at := range []int{0, count / 2, count - 1} {
				p := tablePng()
				p.Kept = sameChunks(count, "tEXt", strings.Repeat("x", 2600))
				p.Kept[at].Data = strings.Repeat("y", size)
				checkPng(t, fmt.Sprintf("%d bytes at %d of %d", size, at, count), p, size <= 2600)
			}
		}
	}
}

// turnedPng is the picture with something of it another one, which may still be right.
func turnedPng(r *rand.Rand, p impl.Png) impl.Png {
	p = copyOfPng(p)
	near := func(n *int) { *n += []int{-1, 1, 2, 8, 256}[r.Intn(5)] }
	numbers := []*int{&p.Head.Width, &p.Head.Height, &p.Head.Depth, &p.Head.Color, &p.Raster.Width, &p.Raster.Height, &p.Raster.Depth, &p.Raster.Color}
	for _, list := range [][]int{p.Clear, p.Raster.Samples} {
		if len(list) > 0 {
			numbers = append(numbers, &list[r.Intn(len(list))])
		}
	}
	switch at := r.Intn(len(numbers) + 6); at {
	default:
		near(numbers[at])
	case len(numbers):
		p.Head.Width, p.Head.Height, p.Raster.Width, p.Raster.Height = p.Head.Height, p.Head.Width, p.Raster.Height, p.Raster.Width
	case len(numbers) + 1:
		p.Table = p.Table[:len(p.Table)/2]
	case len(numbers) + 2:
		p.Table = append(p.Table, impl.Rgb{G: r.Intn(300)})
	case len(numbers) + 3:
		p.Clear = append(p.Clear, r.Intn(300))
	case len(numbers) + 4:
		p.Kept = append(p.Kept, someChunks(r, 1, 10)...)
	case len(numbers) + 5:
		p.Head.Lace = !p.Head.Lace
	}
	return p
}

func TestPngOkOfTurnedPictures(t *testing.T) {
	r := rand.New(rand.NewSource(232))
	seen := map[bool]int{}
	eachPng(233, func(p impl.Png) {
		for range 7 {
			bad := turnedPng(r, p)
			seen[slowPngOk(bad)]++
			checkPng(t, "a turned picture", bad, slowPngOk(bad))
			if slowPngOk(bad) {
				checkP27(t, bad)
			}
		}
	})
	if seen[true] < 1000 || seen[false] < 1000 {
		t.Errorf("%v are right and not", seen)
	}
}

func TestReadPngInFigures(t *testing.T) {
	known, _ := knownFile(t)
	checkReadPng(t, "a file that was written elsewhere", known, impl.Png{
		Head:   impl.Head{Width: 1, Height: 1, Depth: 8, Color: impl.ColorFullClear},
		Raster: impl.Raster{Width: 1, Height: 1, Depth: 8, Color: impl.ColorFullClear, Samples: []int{0, 0, 255, 127}},
	})
	// 3 by 2, depth 2, table; the rows 00 01 10 and 10 01 00, as they are and less what is above.
	zlib := "7801" + "01" + "0400" + "fbff" + "00180278" + sumHex("\x00\x18\x02\x78")
	list := []impl.Chunk{
		{Name: "IHDR", Data: ofHex(t, "00000003"+"00000002"+"02"+"03"+"00"+"00"+"00")},
		{Name: "PLTE", Data: ofHex(t, "010203"+"fffefd"+"008007")},
		{Name: "tRNS", Data: ofHex(t, "0064")},
		{Name: "tEXt", Data: "a\x00b"},
		{Name: "IDAT", Data: ofHex(t, zlib)},
		{Name: "IEND"},
	}
	want := tablePng()
	want.Raster.Samples = []int{0, 1, 2, 2, 1, 0}
	checkReadPng(t, "a table", fileOf(list...), want)
}

func sumHex(text string) string { return hex.EncodeToString([]byte(sumText(text))) }

func ofHex(t *testing.T, figures string) string {
	t.Helper()
	text, err := hex.DecodeString(figures)
	if err != nil {
		t.Fatal(err)
	}
	return string(text)
}

func TestReadPngChunks(t *testing.T) {
	file := pngText(tablePng())
	checkReadPng(t, "the file", file, tablePng())
	checkNoPng(t, "nothing", "", impl.PngChunks)
	checkNoPng(t, "a byte", "x", impl.PngChunks)
	checkNoPng(t, "no sign", file[8:], impl.PngChunks)
	checkNoPng(t, "a document", "%PDF-1.4\n", impl.PngChunks)
	checkNoPng(t, "too long", file+strings.Repeat("\x00", 12001-len(file)), impl.PngChunks)
	checkNoPng(t, "a byte behind", file+"\x00", impl.PngChunks)
	checkNoPng(t, "too many chunks", fileOf(sameChunks(41, "tEXt", "")...), impl.PngChunks)
	checkNoPng(t, "a name that is not right", fileOf(slices.Insert(piecesOf(tablePng(), linesOf(tablePng(), 0)), 1, impl.Chunk{Name: "text"})...), impl.PngChunks)
	ends := map[int]bool{8: true}
	list, _ := slowChunks(file)
	for at, i := 8, 0; i < len(list); i++ {
		at += 12 + len(list[i].Data)
		ends[at] = true
	}
	for size := range file {
		if code := checkSlowPng(t, file[:size]); (code == impl.PngOrder) != ends[size] || code != impl.PngOrder && code != impl.PngChunks {
			t.Fatalf("cut to %d bytes: code %d", size, code)
		}
	}
	for at := range file {
		for _, turn := range everyTurn() {
			turned := turnedAt(file, at, turn)
			if code := checkSlowPng(t, turned); code == 0 {
				t.Fatalf("turned by %d at %d, it is read", turn, at)
			}
		}
	}
}

// lettered are chunks by their letters, each with the Data that the table picture has for it, the first data with all of it.
func lettered(letters []byte) []impl.Chunk {
	p := tablePng()
	data := map[byte]impl.Chunk{
		'H': {Name: "IHDR", Data: slowHeadText(p.Head)}, 'P': {Name: "PLTE", Data: slowTableText(p.Table)}, 'T': {Name: "tRNS", Data: slowClearText(p.Head, p.Clear)},
		'D': {Name: "IDAT", Data: storedZlib(linesOf(p, 0))}, 'E': {Name: "IEND"}, 'k': {Name: "tEXt", Data: "a\x00b"}, 'x': {Name: "TEXt", Data: "a\x00b"},
	}
	var list []impl.Chunk
	for _, letter := range letters {
		list = append(list, data[letter])
		if letter == 'D' {
			data['D'] = impl.Chunk{Name: "IDAT"}
		}
	}
	return list
}

// checkLettered wants the code of chunks in this order, and the picture where there is none.
func checkLettered(t *testing.T, letters string) int {
	t.Helper()
	list := lettered([]byte(letters))
	text := fileOf(list...)
	if !slowInOrder(list) {
		checkNoPng(t, letters, text, impl.PngOrder)
		return impl.PngOrder
	}
	if !strings.Contains(letters, "P") {
		checkNoPng(t, letters, text, impl.PngTable)
		return impl.PngTable
	}
	want := tablePng()
	want.Kept = sameChunks(strings.Count(letters, "k"), "tEXt", "a\x00b")
	if !strings.Contains(letters, "T") {
		want.Clear = nil
	}
	checkReadPng(t, letters, text, want)
	return 0
}

func TestReadPngOrder(t *testing.T) {
	for _, c := range []struct {
		letters string
		want    int
	}{
		{"", impl.PngOrder},
		{"H", impl.PngOrder},
		{"E", impl.PngOrder},
		{"HE", impl.PngOrder},
		{"HPE", impl.PngOrder},
		{"HPTkE", impl.PngOrder},
		{"HD", impl.PngOrder},
		{"HPD", impl.PngOrder},
		{"HPDk", impl.PngOrder},
		{"HPDEk", impl.PngOrder},
		{"HPDED", impl.PngOrder},
		{"HPDEE", impl.PngOrder},
		{"HEPDE", impl.PngOrder},
		{"EHPDE", impl.PngOrder},
		{"PHDE", impl.PngOrder},
		{"kHPDE", impl.PngOrder},
		{"HHPDE", impl.PngOrder},
		{"HPHDE", impl.PngOrder},
		{"HPDHE", impl.PngOrder},
		{"HPDEH", impl.PngOrder},
		{"HPPDE", impl.PngOrder},
		{"HPTPDE", impl.PngOrder},
		{"HPTTDE", impl.PngOrder},
		{"HPTkTDE", impl.PngOrder},
		{"HPDTE", impl.PngOrder},
		{"HDPE", impl.PngOrder},
		{"HDPTE", impl.PngOrder},
		{"HPDTDE", impl.PngOrder},
		{"HTPDE", impl.PngOrder},
		{"HTkPDE", impl.PngOrder},
		{"HPDkDE", impl.PngOrder},
		{"HPDDkDDE", impl.PngOrder},
		{"HxPDE", impl.PngOrder},
		{"HPxDE", impl.PngOrder},
		{"HPDxE", impl.PngOrder},
		{"HPDxDE", impl.PngOrder},
		{"xHPDE", impl.PngOrder},
		{"HPDEx", impl.PngOrder},
		{"HDE", impl.PngTable},
		{"HTDE", impl.PngTable},
		{"HkTkDkE", impl.PngTable},
		{"HPDE", 0},
		{"HPTDE", 0},
		{"HPDDDE", 0},
		{"HPTDDE", 0},
		{"HkPkTkDkE", 0},
		{"HkkPkkTkkDDkkE", 0},
		{"HPkDE", 0},
		{"HPDkE", 0},
	} {
		if got := checkLettered(t, c.letters); got != c.want {
			t.Errorf("%s is wanted to be %d, not %d", c.letters, c.want, got)
		}
	}
}

// Every order of up to five chunks, and, behind the first one, of up to five more ahead of the last one.
func TestReadPngEveryOrder(t *testing.T) {
	seen := map[int]int{}
	var tell func(letters string, left int)
	tell = func(letters string, left int) {
		if len(letters) <= 5 {
			seen[checkLettered(t, letters)]++
		}
		seen[checkLettered(t, "H"+letters+"E")]++
		for _, letter := range "HPTDEkx" {
			if left > 0 {
				tell(letters+string(letter), left-1)
			}
		}
	}
	tell("", 5)
	if seen[0] < 40 || seen[impl.PngTable] < 40 || seen[impl.PngOrder] < 10000 {
		t.Errorf("%v", seen)
	}
}

// A chunk that is needed by its name, and none that the document knows, at each place.
func TestReadPngOfOtherChunks(t *testing.T) {
	p := tablePng()
	list := piecesOf(p, linesOf(p, 0))
	for _, name := range []string{"TEXt", "TRNS", "AAAA", "ZZZZ", "IHDr", "IDAt", "PLTe", "IENd", "IdAT", "ABCd"} {
		for at := range len(list) + 1 {
			checkNoPng(t, name, fileOf(slices.Insert(slices.Clone(list), at, impl.Chunk{Name: name})...), impl.PngOrder)
		}
	}
	for _, name := range []string{"iHDR", "pLTE", "iDAT", "iEND", "tRNs", "trNS", "bKGD", "sBIT", "hIST", "aaAa", "zzZz", "prIv"} {
		for at := range len(list) + 1 {
			more := impl.Chunk{Name: name, Data: "x"}
			text := fileOf(slices.Insert(slices.Clone(list), at, more)...)
			if at == 0 || at == len(list) {
				checkNoPng(t, name, text, impl.PngOrder)
				continue
			}
			want := tablePng()
			// Of the chunks that make the picture three stand ahead of the one that is kept.
			if at <= 3 {
				want.Kept = []impl.Chunk{more, p.Kept[0]}
			} else {
				want.Kept = []impl.Chunk{p.Kept[0], more}
			}
			checkReadPng(t, name, text, want)
		}
	}
}

func TestReadPngHead(t *testing.T) {
	p := tablePng()
	list := piecesOf(p, linesOf(p, 0))
	for size := range 30 {
		list[0].Data = strings.Repeat(slowHeadText(p.Head), 3)[:size]
		if size != 13 {
			checkNoPng(t, fmt.Sprintf("a head of %d bytes", size), fileOf(list...), impl.PngHead)
		}
	}
	heads := headsByText()
	refused := 0
	for at := range slowHeadText(p.Head) {
		for _, turn := range everyTurn() {
			list[0].Data = turnedAt(slowHeadText(p.Head), at, turn)
			if _, ok := heads[list[0].Data]; ok {
				checkSlowPng(t, fileOf(list...))
				continue
			}
			refused++
			checkNoPng(t, fmt.Sprintf("byte %d of the head turned by %d", at, turn), fileOf(list...), impl.PngHead)
		}
	}
	if refused < 3000 {
		t.Errorf("only %d are refused", refused)
	}
}

// withPiece has a chunk of this name and Data, where it may stand, in place of those it had.
func withPiece(list []impl.Chunk, name, data string) []impl.Chunk {
	list = withoutPiece(list, name)
	at := slices.IndexFunc(list, func(c impl.Chunk) bool { return c.Name == "IDAT" })
	switch name {
	case "PLTE":
		at = 1
	case "IDAT":
		at = len(list) - 1
	}
	return slices.Insert(list, at, impl.Chunk{Name: name, Data: data})
}

func withoutPiece(list []impl.Chunk, name string) []impl.Chunk {
	return slices.DeleteFunc(slices.Clone(list), func(c impl.Chunk) bool { return c.Name == name })
}

func TestReadPngTable(t *testing.T) {
	eachPng(234, func(p impl.Png) {
		list := piecesOf(p, linesOf(p, 0))
		if p.Head.Color != impl.ColorTable {
			for _, size := range []int{0, 1, 3, 6, 768, 771} {
				checkNoPng(t, fmt.Sprintf("%d bytes where no table is to be", size), fileOf(withPiece(list, "PLTE", strings.Repeat("a", size))...), impl.PngTable)
			}
			return
		}
		checkNoPng(t, "no table", fileOf(withoutPiece(list, "PLTE")...), impl.PngTable)
		most := 3 << p.Head.Depth
		for _, size := range []int{0, 1, 2, 4, 5, most - 1, most - 2, most + 1, most + 2, most + 3, 769, 771, 1536} {
			checkNoPng(t, fmt.Sprintf("a table of %d bytes, depth %d", size, p.Head.Depth), fileOf(withPiece(list, "PLTE", strings.Repeat("a", size))...), impl.PngTable)
		}
		want := copyOfPng(p)
		want.Table = slices.Repeat([]impl.Rgb{{R: 'a', G: 'a', B: 'a'}}, 1<<p.Head.Depth)
		checkReadPng(t, "as many colours as may be", fileOf(withPiece(list, "PLTE", strings.Repeat("a", most))...), want)
	})
}

func TestReadPngClear(t *testing.T) {
	seen := map[bool]int{}
	eachPng(235, func(p impl.Png) {
		list := piecesOf(p, linesOf(p, 0))
		texts := []string{"", "a", "\x00\x01", "\x00\x02", "\x00\x10", "\x00\xff", "\x01\x00", "\xff\xff", "abc", "\x00\x00\x00\x00\x00\x00", "\x00\xff\x00\xff\x00\xff", "abcdef", "\x00\x00\x00\x01\x01\x00",
			strings.Repeat("x", max(1, len(p.Table))), strings.Repeat("x", len(p.Table)+1), strings.Repeat("x", 257)}
		for _, text := range texts {
			want := copyOfPng(p)
			var ok bool
			want.Clear, ok = slowReadClear(p.Head, len(p.Table), text)
			seen[ok]++
			file := fileOf(withPiece(list, "tRNS", text)...)
			if ok {
				checkReadPng(t, fmt.Sprintf("%q", text), file, want)
			} else {
				checkNoPng(t, fmt.Sprintf("%+v, %q", p.Head, text), file, impl.PngClear)
			}
		}
		want := copyOfPng(p)
		want.Clear = nil
		checkReadPng(t, "nothing clear", fileOf(withoutPiece(list, "tRNS")...), want)
	})
	if seen[true] < 1000 || seen[false] < 1000 {
		t.Errorf("%v are right and not", seen)
	}
}

func TestReadPngData(t *testing.T) {
	eachPng(236, func(p impl.Png) {
		lines := linesOf(p, 0)
		list := piecesOf(p, lines)
		packed := storedZlib(lines)
		for _, c := range []struct {
			name, data string
			want       int
		}{
			{"no data", "", impl.PngData},
			{"no container", "abcdefghij", impl.PngData},
			{"lines that are not packed", lines, impl.PngData},
			{"packed lines alone", storedText(lines), impl.PngData},
			{"a head that is none", "\x78\x02" + packed[2:], impl.PngData},
			{"a sum turned", turnedAt(packed, len(packed)-1, 1), impl.PngData},
			{"a sum cut", packed[:len(packed)-1], impl.PngData},
			{"a byte behind", packed + "\x00", impl.PngData},
			{"a container behind", packed + packed, impl.PngData},
			{"a byte of lines more", storedZlib(lines + "\x00"), impl.PngData},
			{"lines twice", storedZlib(lines + lines), impl.PngData},
			{"no lines", storedZlib(""), impl.PngScan},
			{"a byte of lines less", storedZlib(lines[1:]), impl.PngScan},
			{"the last byte of lines less", storedZlib(lines[:len(lines)-1]), impl.PngScan},
		} {
			text := fileOf(withPiece(list, "IDAT", c.data)...)
			if got := checkSlowPng(t, text); got != c.want {
				t.Fatalf("%+v, %s: code %d; want %d", p.Head, c.name, got, c.want)
			}
			checkNoPng(t, c.name, text, c.want)
		}
	})
}

// Kinds of rows that are none, in each row, and those that are.
func TestReadPngScan(t *testing.T) {
	r := rand.New(rand.NewSource(237))
	eachPng(238, func(p impl.Png) {
		lines := linesOf(p, 0)
		list := piecesOf(p, lines)
		for _, at := range kindPlaces(p.Raster, p.Head.Lace) {
			kind := []int{5, 6, 9, 128, 255, 5 + r.Intn(251)}[r.Intn(6)]
			bad := lines[:at] + string([]byte{byte(kind)}) + lines[at+1:]
			checkNoPng(t, fmt.Sprintf("the kind %d at %d", kind, at), fileOf(withPiece(list, "IDAT", storedZlib(bad))...), impl.PngScan)
		}
	})
	p := tablePng()
	for kind := 5; kind < 256; kind++ {
		text := fileOf(piecesOf(p, string([]byte{byte(kind)})+linesOf(p, 0)[1:])...)
		checkNoPng(t, fmt.Sprintf("the kind %d", kind), text, impl.PngScan)
	}
}

// A sample that is just no place of the table, at each place of the picture.
func TestReadPngIndex(t *testing.T) {
	r := rand.New(rand.NewSource(239))
	for _, depth := range []int{1, 2, 4, 8} {
		for _, lace := range bothLaces() {
			for colors := 1; colors < 1<<depth; colors += 1 + colors/8 {
				p := somePng(r, impl.Head{Width: 5, Height: 6, Depth: depth, Color: impl.ColorTable, Lace: lace}, colors)
				checkReadPng(t, "places of the table", pngText(p), p)
				for at := range p.Raster.Samples {
					for _, n := range []int{colors, 1<<depth - 1} {
						bad := copyOfPng(p)
						bad.Raster.Samples[at] = n
						checkNoPng(t, fmt.Sprintf("the sample %d of %d colours", n, colors), pngText(bad), impl.PngIndex)
					}
				}
			}
		}
	}
}

// Bits that are left over in a row are no samples, though they would be no place of the table.
func TestReadPngLeftOverBits(t *testing.T) {
	p := impl.Png{
		Head:   impl.Head{Width: 3, Height: 2, Depth: 2, Color: impl.ColorTable},
		Table:  tableOf(0, 1, 2),
		Raster: impl.Raster{Width: 3, Height: 2, Depth: 2, Color: impl.ColorTable, Samples: []int{0, 1, 0, 1, 0, 1}},
	}
	checkReadPng(t, "bits left over", fileOf(piecesOf(p, "\x00\x13\x00\x47")...), p)
	checkNoPng(t, "the last sample", fileOf(piecesOf(p, "\x00\x10\x00\x48")...), impl.PngIndex)
}

func TestReadPngEnd(t *testing.T) {
	r := rand.New(rand.NewSource(240))
	eachPng(241, func(p impl.Png) {
		list := piecesOf(p, linesOf(p, 0))
		for _, data := range []string{"\x00", "x", randomText(r, 1+r.Intn(30))} {
			list[len(list)-1].Data = data
			checkNoPng(t, "an end with Data", fileOf(list...), impl.PngEnd)
		}
		for _, count := range []int{0, 1, 31, 32, 33, 34, 35} {
			p.Kept = someKept(r, count, 9)
			if count <= 32 {
				checkReadPng(t, fmt.Sprintf("%d kept", count), pngText(p), p)
			} else {
				checkNoPng(t, fmt.Sprintf("%d kept", count), pngText(p), impl.PngEnd)
			}
		}
	})
	p := tablePng()
	for _, size := range []int{0, 2599, 2600, 2601, 2602, 5200} {
		for _, at := range []int{0, 1, 2} {
			p.Kept = []impl.Chunk{{Name: "aaAa", Data: "x"}, {Name: "bbBb"}, {Name: "ccCc", Data: strings.Repeat("y", 2600)}}
			p.Kept[at].Data = strings.Repeat("z", size)
			if size <= 2600 {
				checkReadPng(t, fmt.Sprintf("%d bytes kept", size), pngText(p), p)
			} else {
				checkNoPng(t, fmt.Sprintf("%d bytes kept", size), pngText(p), impl.PngEnd)
			}
		}
	}
}

// As many chunks as there may be in a file, and one more.
func TestReadPngOfManyChunks(t *testing.T) {
	p := tablePng()
	p.Kept = sameChunks(37-2, "tEXt", "")
	checkNoPng(t, "40 chunks, 35 kept", pngText(p), impl.PngEnd)
	p.Kept = sameChunks(36, "tEXt", "")
	checkNoPng(t, "41 chunks", pngText(p), impl.PngChunks)
	p.Kept = sameChunks(32, "tEXt", "")
	list := piecesOf(p, linesOf(p, 0))
	at := len(list) - 2
	list = slices.Insert(list, at, sameChunks(3, "IDAT", "")...)
	checkReadPng(t, "40 chunks, 32 kept", fileOf(list...), p)
	list = slices.Insert(list, at, impl.Chunk{Name: "IDAT"})
	checkNoPng(t, "41 chunks, 32 kept", fileOf(list...), impl.PngChunks)
}

// The data in one chunk, in two cut at each place, in a chunk a byte, and in empty ones ahead, between and behind.
func TestReadPngDataInPieces(t *testing.T) {
	p := tablePng()
	list := piecesOf(p, linesOf(p, 4))
	at := len(list) - 2
	packed := list[at].Data
	data := func(pieces ...string) string {
		var chunks []impl.Chunk
		for _, piece := range pieces {
			chunks = append(chunks, impl.Chunk{Name: "IDAT", Data: piece})
		}
		return fileOf(slices.Replace(slices.Clone(list), at, at+1, chunks...)...)
	}
	for cut := range len(packed) + 1 {
		checkReadPng(t, "two pieces", data(packed[:cut], packed[cut:]), p)
		checkReadPng(t, "an empty one between", data(packed[:cut], "", packed[cut:]), p)
		checkReadPng(t, "empty ones around", data("", packed[:cut], "", "", packed[cut:], ""), p)
		if cut > 0 && cut < len(packed) {
			checkNoPng(t, "two pieces, the second first", data(packed[cut:], packed[:cut]), impl.PngData)
			checkNoPng(t, "one piece alone", data(packed[:cut]), impl.PngData)
		}
	}
	checkReadPng(t, "a piece a byte", data(strings.Split(packed, "")...), p)
	checkNoPng(t, "empty ones alone", data("", "", ""), impl.PngData)
	checkNoPng(t, "twice", data(packed, packed), impl.PngData)
}

// Chunks that are kept come in their order, at whatever places they stand.
func TestReadPngKeptInOrder(t *testing.T) {
	p := tablePng()
	p.Kept = nil
	list := piecesOf(p, linesOf(p, 0))
	one, two, three := impl.Chunk{Name: "zzZz", Data: "1"}, impl.Chunk{Name: "aaAa", Data: "2"}, impl.Chunk{Name: "zzZz", Data: "3"}
	for a := 1; a < len(list); a++ {
		for b := a; b < len(list); b++ {
			for c := b; c < len(list); c++ {
				more := slices.Insert(slices.Clone(list), c, three)
				more = slices.Insert(more, b, two)
				more = slices.Insert(more, a, one)
				want := p
				want.Kept = []impl.Chunk{one, two, three}
				checkReadPng(t, fmt.Sprint(a, b, c), fileOf(more...), want)
			}
		}
	}
	r := rand.New(rand.NewSource(242))
	for range 200 {
		kept := someKept(r, r.Intn(33), 20)
		var more []impl.Chunk
		left := kept
		for i, c := range list {
			more = append(more, c)
			n := r.Intn(len(left) + 1)
			if i == len(list)-2 {
				n = len(left)
			}
			if i < len(list)-1 {
				more, left = append(more, left[:n]...), left[n:]
			}
		}
		want := p
		want.Kept = kept
		checkReadPng(t, "kept chunks", fileOf(more...), want)
	}
}

// The faults that a file can have, in the order of their codes.
const (
	badChunks = 1 << iota
	badOrder
	badHead
	badTable
	badClear
	badData
	badScan
	badIndex
	badEnd
	allBad
)

func pick(r *rand.Rand, list ...string) string { return list[r.Intn(len(list))] }

// badLines are lines of the table picture with these faults.
func badLines(r *rand.Rand, bad int) string {
	p := tablePng()
	if bad&badIndex > 0 {
		p.Raster.Samples[r.Intn(6)] = 3
	}
	lines := linesOf(p, 0)
	if bad&badScan > 0 {
		lines = pick(r, lines[:2], "\x05"+lines[1:], lines[:2]+"\xff"+lines[3:], lines[:3], "")
	}
	return lines
}

// badPieces are chunks of the table picture with these faults, those of the order and of the chunks themselves left out.
func badPieces(r *rand.Rand, bad int) []impl.Chunk {
	p := tablePng()
	list := piecesOf(p, badLines(r, bad))
	if bad&badHead > 0 {
		head := list[0].Data
		list[0].Data = pick(r, "", head[:12], head+"\x00", turnedAt(head, 3, 3), turnedAt(head, 8, 1), turnedAt(head, 9, 4), turnedAt(head, 10, 1), turnedAt(head, 12, 2))
	}
	if bad&badTable > 0 {
		list = withPiece(list, "PLTE", pick(r, "", "ab", "abcd", strings.Repeat("abc", 5), strings.Repeat("abc", 257)))
		if r.Intn(3) == 0 {
			list = withoutPiece(list, "PLTE")
		}
	}
	if bad&badClear > 0 {
		list = withPiece(list, "tRNS", pick(r, "", "abcdef", strings.Repeat("a", 300)))
	}
	if bad&badData > 0 {
		at := len(list) - 2
		data := list[at].Data
		list[at].Data = pick(r, "", "x", data+"x", data[1:], turnedAt(data, len(data)-1, 1), storedZlib(linesOf(p, 0)+"\x00"))
	}
	if bad&badEnd > 0 {
		switch r.Intn(3) {
		case 0:
			list[len(list)-1].Data = "x"
		case 1:
			list = slices.Insert(list, 1, impl.Chunk{Name: "tEXt", Data: strings.Repeat("x", 2601)})
		case 2:
			list = slices.Insert(list, 1, sameChunks(32, "tEXt", "")...)
		}
	}
	return list
}

// badFile has just these faults.
func badFile(r *rand.Rand, bad int) string {
	list := badPieces(r, bad)
	if bad&badOrder > 0 {
		last := len(list) - 1
		switch r.Intn(6) {
		case 0:
			list = slices.Insert(list, 1+r.Intn(last), impl.Chunk{Name: "TEXt"})
		case 1:
			list = slices.Insert(list, r.Intn(last), list[0])
		case 2:
			list = list[:last]
		case 3:
			list = list[1:]
		case 4:
			list = slices.Insert(list, last, impl.Chunk{Name: "tIMe"}, impl.Chunk{Name: "IDAT"})
		case 5:
			list = withoutPiece(list, "IDAT")
		}
	}
	text := fileOf(list...)
	if bad&badChunks > 0 {
		text = pick(r, text[:len(text)-1], turnedAt(text, 0, 1), turnedAt(text, len(text)-1, 1), text+"x", text+strings.Repeat("\x00", 12000), text[1:])
	}
	return text
}

// Whatever faults a file has, the code is that of the first that is listed.
func TestReadPngOrderOfCodes(t *testing.T) {
	r := rand.New(rand.NewSource(243))
	for bad := range allBad {
		want := 0
		for code := impl.PngEnd; code >= impl.PngChunks; code-- {
			if bad>>(code-1)&1 > 0 {
				want = code
			}
		}
		for range 20 {
			text := badFile(r, bad)
			if got := checkSlowPng(t, text); got != want {
				t.Fatalf("faults %b: code %d; want %d: %q", bad, got, want, text)
			}
			if want > 0 {
				checkNoPng(t, "faults", text, want)
			}
		}
	}
}

// In pictures without a table: a table, what is clear, the data, the kinds of rows and the end, each behind another fault.
func TestReadPngOrderWithoutTable(t *testing.T) {
	r := rand.New(rand.NewSource(244))
	eachPng(245, func(p impl.Png) {
		if p.Head.Color == impl.ColorTable || p.Head.Width != 7 {
			return
		}
		for bad := range 32 {
			lines := linesOf(p, 0)
			if bad&8 > 0 {
				lines = "\x05" + lines[1:]
			}
			list := piecesOf(p, lines)
			want := 0
			if bad&16 > 0 {
				list[len(list)-1].Data, want = "x", impl.PngEnd
			}
			if bad&8 > 0 {
				want = impl.PngScan
			}
			if bad&4 > 0 {
				list[len(list)-2].Data, want = pick(r, "", "abcdefg", list[len(list)-2].Data+"x"), impl.PngData
			}
			if bad&2 > 0 {
				list, want = withPiece(list, "tRNS", pick(r, "", "a", "abcdefg")), impl.PngClear
			}
			if bad&1 > 0 {
				list, want = withPiece(list, "PLTE", pick(r, "", "a", "abc", "abcdef")), impl.PngTable
			}
			if got := checkSlowPng(t, fileOf(list...)); got != want {
				t.Fatalf("%+v, faults %b: code %d; want %d", p.Head, bad, got, want)
			}
		}
	})
}

// respelt has one byte of one chunk turned, or cut, or more, and a right sum again.
func respelt(r *rand.Rand, list []impl.Chunk) []impl.Chunk {
	list = slices.Clone(list)
	at := r.Intn(len(list))
	switch r.Intn(8) {
	case 0:
		list = slices.Delete(list, at, at+1)
	case 1:
		list = slices.Insert(list, at, list[r.Intn(len(list))])
	case 2:
		other := r.Intn(len(list))
		list[at], list[other] = list[other], list[at]
	case 3:
		list[at].Name = someName(r)
	default:
		list[at].Data = spoilt(r, list[at].Data)
	}
	return list
}

func TestP27OfSpoiltFiles(t *testing.T) {
	r := rand.New(rand.NewSource(246))
	seen := map[int]int{}
	eachPng(247, func(p impl.Png) {
		if p.Head.Width*p.Head.Height > 150 {
			return
		}
		list := piecesOf(p, linesOf(p, r.Intn(5)))
		for range 8 {
			seen[checkSlowPng(t, fileOf(respelt(r, list)...))]++
			seen[checkSlowPng(t, fileOf(respelt(r, respelt(r, list))...))]++
		}
		lines := spoilt(r, linesOf(p, r.Intn(5)))
		seen[checkSlowPng(t, fileOf(withPiece(list, "IDAT", storedZlib(lines))...))]++
		seen[checkSlowPng(t, spoilt(r, fileOf(list...)))]++
	})
	for code := range 10 {
		if seen[code] == 0 {
			t.Errorf("no text has the code %d: %v", code, seen)
		}
	}
}

func TestReadPngOfAnyTexts(t *testing.T) {
	r := rand.New(rand.NewSource(248))
	for range 3000 {
		checkSlowPng(t, randomText(r, r.Intn(100)))
		checkSlowPng(t, signText()+randomText(r, r.Intn(100)))
		checkSlowPng(t, fileOf(someChunks(r, r.Intn(6), 20)...))
		list := append([]impl.Chunk{{Name: "IHDR", Data: slowHeadText(tablePng().Head)}}, someChunks(r, r.Intn(3), 20)...)
		checkSlowPng(t, fileOf(append(list, impl.Chunk{Name: "IDAT", Data: randomText(r, r.Intn(20))}, impl.Chunk{Name: "IEND"})...))
	}
}

// onePixel is a picture of one pixel.
func onePixel(color, depth int, table []impl.Rgb, clear []int, samples ...int) impl.Png {
	return impl.Png{
		Head: impl.Head{Width: 1, Height: 1, Depth: depth, Color: color}, Table: table, Clear: clear,
		Raster: impl.Raster{Width: 1, Height: 1, Depth: depth, Color: color, Samples: samples},
	}
}

func checkPixels(t *testing.T, p impl.Png, want ...int) {
	t.Helper()
	for _, lace := range bothLaces() {
		p.Head.Lace = lace
		if m := checkP27(t, p); !slices.Equal(m.Pixels, want) {
			t.Errorf("%+v, table %v, clear %v, samples %v: %v; want %v", p.Head, p.Table, p.Clear, p.Raster.Samples, m.Pixels, want)
		}
	}
}

func TestMeaningOfKnownPixels(t *testing.T) {
	for _, c := range []struct{ depth, sample, want int }{
		{1, 0, 0}, {1, 1, 65535},
		{2, 0, 0}, {2, 1, 21845}, {2, 2, 43690}, {2, 3, 65535},
		{4, 0, 0}, {4, 1, 4369}, {4, 7, 30583}, {4, 8, 34952}, {4, 14, 61166}, {4, 15, 65535},
		{8, 0, 0}, {8, 1, 257}, {8, 127, 32639}, {8, 128, 32896}, {8, 254, 65278}, {8, 255, 65535},
		{16, 0, 0}, {16, 1, 1}, {16, 255, 255}, {16, 256, 256}, {16, 32768, 32768}, {16, 65534, 65534}, {16, 65535, 65535},
	} {
		checkPixels(t, onePixel(impl.ColorGray, c.depth, nil, nil, c.sample), c.want, c.want, c.want, 65535)
		if c.depth < 8 {
			continue
		}
		checkPixels(t, onePixel(impl.ColorFull, c.depth, nil, nil, c.sample, 0, 1<<c.depth-1), c.want, 0, 65535, 65535)
		checkPixels(t, onePixel(impl.ColorFull, c.depth, nil, nil, 0, c.sample, 0), 0, c.want, 0, 65535)
		checkPixels(t, onePixel(impl.ColorFull, c.depth, nil, nil, 1<<c.depth-1, 0, c.sample), 65535, 0, c.want, 65535)
		checkPixels(t, onePixel(impl.ColorGrayClear, c.depth, nil, nil, c.sample, 0), c.want, c.want, c.want, 0)
		checkPixels(t, onePixel(impl.ColorGrayClear, c.depth, nil, nil, c.sample, 1<<c.depth-1), c.want, c.want, c.want, 65535)
		checkPixels(t, onePixel(impl.ColorGrayClear, c.depth, nil, nil, 0, c.sample), 0, 0, 0, c.want)
		checkPixels(t, onePixel(impl.ColorFullClear, c.depth, nil, nil, c.sample, 0, 1<<c.depth-1, 0), c.want, 0, 65535, 0)
		checkPixels(t, onePixel(impl.ColorFullClear, c.depth, nil, nil, 0, c.sample, 0, 1<<c.depth-1), 0, c.want, 0, 65535)
		checkPixels(t, onePixel(impl.ColorFullClear, c.depth, nil, nil, 0, 0, c.sample, 0), 0, 0, c.want, 0)
		checkPixels(t, onePixel(impl.ColorFullClear, c.depth, nil, nil, 0, 0, 0, c.sample), 0, 0, 0, c.want)
	}
}

// Every sample of every depth by a rule of its own: all four in the same steps, from 0 up to 65535.
func TestMeaningOfEverySample(t *testing.T) {
	for _, depth := range fiveDepths() {
		most := 1<<depth - 1
		for n := 0; n <= most; n += 1 + most/300 {
			m := checkP27(t, onePixel(impl.ColorGray, depth, nil, nil, n))
			if m.Pixels[0]*most != n*65535 {
				t.Fatalf("depth %d: %d is %d", depth, n, m.Pixels[0])
			}
		}
	}
}

func TestMeaningOfTables(t *testing.T) {
	table := []impl.Rgb{{R: 0, G: 1, B: 255}, {R: 128, G: 127, B: 2}}
	for _, depth := range []int{1, 2, 4, 8} {
		for _, c := range []struct{ clear, covers []int }{
			{nil, []int{65535, 65535}},
			{[]int{0}, []int{0, 65535}},
			{[]int{255}, []int{65535, 65535}},
			{[]int{1}, []int{257, 65535}},
			{[]int{128, 254}, []int{32896, 65278}},
			{[]int{255, 0}, []int{65535, 0}},
			{[]int{0, 0}, []int{0, 0}},
		} {
			checkPixels(t, onePixel(impl.ColorTable, depth, table, c.clear, 0), 0, 257, 65535, c.covers[0])
			checkPixels(t, onePixel(impl.ColorTable, depth, table, c.clear, 1), 32896, 32639, 514, c.covers[1])
		}
	}
	wide := tableOf(0, 1, 256)
	for place := range 256 {
		for _, size := range []int{0, 1, place, place + 1, 255, 256} {
			if size > 256 {
				continue
			}
			clear := samplesInTurn(7, size, 8)
			covers := 65535
			if place < size {
				covers = (7 + place) % 256 * 257
			}
			c := wide[place]
			checkPixels(t, onePixel(impl.ColorTable, 8, wide, clear, place), 257*c.R, 257*c.G, 257*c.B, covers)
		}
	}
	checkPixels(t, tablePng(), 257, 514, 771, 0, 65535, 65278, 65021, 25700, 0, 32896, 1799, 65535, 0, 32896, 1799, 65535, 65535, 65278, 65021, 25700, 257, 514, 771, 0)
}

// What is clear is just these pixels, met in each channel; one that is another in one channel covers all.
func TestMeaningOfWhatIsClear(t *testing.T) {
	for _, depth := range fiveDepths() {
		most := 1<<depth - 1
		for _, n := range []int{0, 1, most / 2, most - 1, most} {
			for _, clear := range []int{0, 1, most / 2, most - 1, most} {
				covers := 65535
				if n == clear {
					covers = 0
				}
				want := n * 65535 / most
				checkPixels(t, onePixel(impl.ColorGray, depth, nil, []int{clear}, n), want, want, want, covers)
			}
		}
	}
	for _, depth := range []int{8, 16} {
		most := 1<<depth - 1
		step := 65535 / most
		for _, clear := range [][]int{{0, 0, 0}, {1, 2, 3}, {most, most, most}, {3, 2, 1}, {most, 0, 1}} {
			checkPixels(t, onePixel(impl.ColorFull, depth, nil, clear, clear...), clear[0]*step, clear[1]*step, clear[2]*step, 0)
			for channel := range 3 {
				for _, n := range []int{0, 1, 2, 3, most - 1, most} {
					samples := slices.Clone(clear)
					samples[channel] = n
					covers := 65535
					if n == clear[channel] {
						covers = 0
					}
					checkPixels(t, onePixel(impl.ColorFull, depth, nil, clear, samples...), samples[0]*step, samples[1]*step, samples[2]*step, covers)
				}
			}
		}
	}
}

// Pixels stand row by row, clear ones among others.
func TestMeaningOfRows(t *testing.T) {
	p := impl.Png{
		Head: impl.Head{Width: 3, Height: 2, Depth: 8}, Clear: []int{5},
		Raster: impl.Raster{Width: 3, Height: 2, Depth: 8, Samples: []int{0, 5, 255, 5, 1, 5}},
	}
	checkPixels(t, p, 0, 0, 0, 65535, 1285, 1285, 1285, 0, 65535, 65535, 65535, 65535, 1285, 1285, 1285, 0, 257, 257, 257, 65535, 1285, 1285, 1285, 0)
	p = impl.Png{
		Head:   impl.Head{Width: 1, Height: 2, Depth: 16, Color: impl.ColorFullClear},
		Raster: impl.Raster{Width: 1, Height: 2, Depth: 16, Color: impl.ColorFullClear, Samples: []int{1, 2, 3, 4, 5, 6, 7, 8}},
	}
	checkPixels(t, p, 1, 2, 3, 4, 5, 6, 7, 8)
}

func TestMeaningOfKept(t *testing.T) {
	r := rand.New(rand.NewSource(249))
	for count := range 33 {
		p := tablePng()
		p.Kept = someKept(r, count, 50)
		if m := checkP27(t, p); !slices.Equal(m.Kept, p.Kept) {
			t.Errorf("%v; want %v", m.Kept, p.Kept)
		}
	}
}

// The meaning says nothing of how the picture is told: the same pixels in other colors, depths and passes.
func TestMeaningOfOtherPictures(t *testing.T) {
	black, white := []int{0, 0, 0, 65535}, []int{65535, 65535, 65535, 65535}
	want := impl.Meaning{Width: 2, Height: 1, Pixels: slices.Concat(black, white)}
	two := func(color, depth int, table []impl.Rgb, clear []int, samples ...int) impl.Png {
		p := onePixel(color, depth, table, clear, samples...)
		p.Head.Width, p.Raster.Width = 2, 2
		return p
	}
	for _, p := range []impl.Png{
		two(0, 1, nil, nil, 0, 1),
		two(0, 4, nil, []int{7}, 0, 15),
		two(0, 16, nil, nil, 0, 65535),
		two(2, 8, nil, []int{0, 0, 1}, 0, 0, 0, 255, 255, 255),
		two(2, 16, nil, nil, 0, 0, 0, 65535, 65535, 65535),
		two(3, 1, []impl.Rgb{{R: 255, G: 255, B: 255}, {}}, nil, 1, 0),
		two(3, 8, []impl.Rgb{{R: 255, G: 255, B: 255}, {R: 9}, {}}, []int{255, 3}, 2, 0),
		two(4, 8, nil, nil, 0, 255, 255, 255),
		two(6, 16, nil, nil, 0, 0, 0, 65535, 65535, 65535, 65535, 65535),
	} {
		for _, lace := range bothLaces() {
			p.Head.Lace = lace
			if m := checkP27(t, p); !impl.SameMeaning(m, want) || !impl.SameMeaning(want, m) {
				t.Errorf("%v: %v; want %v", p, m, want)
			}
		}
	}
}

func TestSameMeaning(t *testing.T) {
	kept := []impl.Chunk{{Name: "tEXt", Data: "a"}, {Name: "tEXt", Data: "b"}, {Name: "bKGD", Data: "a"}}
	right := impl.Meaning{Width: 2, Height: 1, Pixels: []int{1, 2, 3, 4, 5, 6, 7, 8}, Kept: kept}
	others := map[string]impl.Meaning{
		"another width":         {Width: 1, Height: 1, Pixels: right.Pixels, Kept: kept},
		"another height":        {Width: 2, Height: 2, Pixels: right.Pixels, Kept: kept},
		"sides turned":          {Width: 1, Height: 2, Pixels: right.Pixels, Kept: kept},
		"no pixels":             {Width: 2, Height: 1, Kept: kept},
		"fewer numbers":         {Width: 2, Height: 1, Pixels: right.Pixels[:7], Kept: kept},
		"one pixel less":        {Width: 2, Height: 1, Pixels: right.Pixels[:4], Kept: kept},
		"more numbers":          {Width: 2, Height: 1, Pixels: append(slices.Clone(right.Pixels), 9), Kept: kept},
		"nothing kept":          {Width: 2, Height: 1, Pixels: right.Pixels},
		"one kept less":         {Width: 2, Height: 1, Pixels: right.Pixels, Kept: kept[:2]},
		"the first kept less":   {Width: 2, Height: 1, Pixels: right.Pixels, Kept: kept[1:]},
		"one kept more":         {Width: 2, Height: 1, Pixels: right.Pixels, Kept: append(slices.Clone(kept), impl.Chunk{})},
		"the first two turned":  {Width: 2, Height: 1, Pixels: right.Pixels, Kept: []impl.Chunk{kept[1], kept[0], kept[2]}},
		"the last two turned":   {Width: 2, Height: 1, Pixels: right.Pixels, Kept: []impl.Chunk{kept[0], kept[2], kept[1]}},
		"the first again":       {Width: 2, Height: 1, Pixels: right.Pixels, Kept: []impl.Chunk{kept[0], kept[0], kept[2]}},
		"another name":          {Width: 2, Height: 1, Pixels: right.Pixels, Kept: []impl.Chunk{{Name: "tEXT", Data: "a"}, kept[1], kept[2]}},
		"other Data":            {Width: 2, Height: 1, Pixels: right.Pixels, Kept: []impl.Chunk{kept[0], kept[1], {Name: "bKGD", Data: "b"}}},
		"longer Data":           {Width: 2, Height: 1, Pixels: right.Pixels, Kept: []impl.Chunk{kept[0], {Name: "tEXt", Data: "b\x00"}, kept[2]}},
		"name and Data shifted": {Width: 2, Height: 1, Pixels: right.Pixels, Kept: []impl.Chunk{{Name: "tEXta"}, kept[1], kept[2]}},
		"nothing at all":        {},
	}
	for i := range right.Pixels {
		for _, n := range []int{0, -1, 9, right.Pixels[i] + 1<<32, right.Pixels[i] + 65536} {
			other := copyOfMeaning(right)
			other.Pixels[i] = n
			others[fmt.Sprintf("number %d is %d", i, n)] = other
		}
	}
	for name, other := range others {
		if impl.SameMeaning(right, other) || impl.SameMeaning(other, right) {
			t.Errorf("%s is the same", name)
		}
		if !impl.SameMeaning(other, copyOfMeaning(other)) {
			t.Errorf("%s is not the same as itself", name)
		}
	}
	if !impl.SameMeaning(right, copyOfMeaning(right)) {
		t.Error("a copy is another one")
	}
}

func TestSameMeaningOfEmptyLists(t *testing.T) {
	for _, a := range []impl.Meaning{{}, {Pixels: []int{}}, {Kept: []impl.Chunk{}}, {Pixels: make([]int, 0, 9), Kept: make([]impl.Chunk, 0, 9)}} {
		if !impl.SameMeaning(a, impl.Meaning{}) || !impl.SameMeaning(impl.Meaning{}, a) {
			t.Errorf("%v is not nothing", a)
		}
	}
	for _, n := range oddNumbers() {
		a, b := impl.Meaning{Width: n, Height: n}, impl.Meaning{Width: n, Height: n, Pixels: []int{n}}
		if !impl.SameMeaning(a, a) || !impl.SameMeaning(b, b) || impl.SameMeaning(a, b) || impl.SameMeaning(b, a) {
			t.Errorf("%d: meanings that are none", n)
		}
	}
}

// Right lists that are turned in one answer are the same in another one, and in the argument.
func TestPicturesShareNoMemory(t *testing.T) {
	eachPng(250, func(p impl.Png) {
		text := pngText(p)
		first, _ := impl.ReadPng(text)
		second, _ := impl.ReadPng(text)
		for _, c := range first.Kept {
			if inMemoryOf(text, c.Name) || inMemoryOf(text, c.Data) {
				t.Fatal("a chunk is a piece of the text")
			}
		}
		clear := first.Clear[:cap(first.Clear)]
		for i := range clear {
			clear[i] = -7
		}
		if !slices.Equal(first.Raster.Samples, p.Raster.Samples) {
			t.Fatalf("%+v: the samples lie behind what is clear", p.Head)
		}
		samples := first.Raster.Samples[:cap(first.Raster.Samples)]
		for i := range samples {
			samples[i] = -8
		}
		if slices.Contains(clear, -8) {
			t.Fatalf("%+v: what is clear lies behind the samples", p.Head)
		}
		table, kept := first.Table[:cap(first.Table)], first.Kept[:cap(first.Kept)]
		for i := range table {
			table[i] = impl.Rgb{R: -9}
		}
		for i := range kept {
			kept[i] = impl.Chunk{Name: "none"}
		}
		if !samePng(second, p) {
			t.Fatalf("%+v: a second answer was changed", p.Head)
		}
		checkReadPng(t, "the same text", text, p)
	})
}

func TestMeaningsShareNoMemory(t *testing.T) {
	eachPng(251, func(p impl.Png) {
		argument := copyOfPng(p)
		first, _ := impl.MeaningOf(argument)
		second, _ := impl.MeaningOf(argument)
		for i, c := range first.Kept {
			if inMemoryOf(argument.Kept[i].Name, c.Name) || inMemoryOf(argument.Kept[i].Data, c.Data) || inMemoryOf(second.Kept[i].Data, c.Data) {
				t.Fatal("a chunk is a piece of another one")
			}
		}
		pixels, kept := first.Pixels[:cap(first.Pixels)], first.Kept[:cap(first.Kept)]
		for i := range pixels {
			pixels[i] = -1
		}
		for i := range kept {
			kept[i] = impl.Chunk{Name: "none"}
		}
		if !samePng(argument, p) || !sameMeant(second, slowMeaning(p)) {
			t.Fatalf("%+v: the argument or a second answer was changed", p.Head)
		}
		for i := range argument.Raster.Samples {
			argument.Raster.Samples[i] = -1
		}
		for i := range argument.Kept {
			argument.Kept[i] = impl.Chunk{Name: "none"}
		}
		if !sameMeant(second, slowMeaning(p)) {
			t.Fatalf("%+v: an answer was changed by the argument", p.Head)
		}
	})
}

// Nothing is written into an argument, nor into the spare room behind it.
func TestPicturesLeaveArgumentsAlone(t *testing.T) {
	r := rand.New(rand.NewSource(252))
	eachPng(253, func(p impl.Png) {
		for _, p := range []impl.Png{p, turnedPng(r, p)} {
			samples, allSamples := spared(p.Raster.Samples)
			clear, allClear := spared(p.Clear)
			allTable := append(slices.Clone(p.Table), impl.Rgb{R: 77}, impl.Rgb{G: 77})
			allKept := append(slices.Clone(p.Kept), impl.Chunk{Name: "spAr"}, impl.Chunk{Name: "roOm"})
			given := p
			given.Raster.Samples, given.Clear, given.Table, given.Kept = samples, clear, allTable[:len(p.Table)], allKept[:len(p.Kept)]
			impl.PngOk(given)
			m, _ := impl.MeaningOf(given)
			pixels, allPixels := spared(m.Pixels)
			impl.SameMeaning(impl.Meaning{Pixels: pixels, Kept: given.Kept}, impl.Meaning{Pixels: pixels, Kept: given.Kept})
			if !samePng(given, p) || !slices.Equal(pixels, m.Pixels) {
				t.Fatalf("%+v: an argument was changed", p.Head)
			}
			for _, all := range [][]int{allSamples, allClear, allPixels} {
				if !slices.Equal(all[len(all)-3:], []int{77, 77, 77}) {
					t.Fatalf("%+v: the room behind became %v", p.Head, all[len(all)-3:])
				}
			}
			if !slices.Equal(allTable[len(p.Table):], []impl.Rgb{{R: 77}, {G: 77}}) || !slices.Equal(allKept[len(p.Kept):], []impl.Chunk{{Name: "spAr"}, {Name: "roOm"}}) {
				t.Fatalf("%+v: the room behind a list was changed", p.Head)
			}
		}
	})
}

// What was refused or told ahead of a call changes nothing.
func TestPicturesKeepNothing(t *testing.T) {
	p := tablePng()
	text := pngText(p)
	r := rand.New(rand.NewSource(254))
	for range 3 {
		for code := impl.PngChunks; code <= impl.PngEnd; code++ {
			checkNoPng(t, "a fault", badFile(r, 1<<(code-1)), code)
			checkReadPng(t, "behind a fault", text, p)
		}
		checkNoMeaning(t, "nothing", impl.Png{})
		checkP27(t, p)
	}
}

// wideColor is a color of another reader in four numbers.
func wideColor(t *testing.T, c color.Color) []int {
	t.Helper()
	switch n := c.(type) {
	case color.Gray:
		return []int{257 * int(n.Y), 257 * int(n.Y), 257 * int(n.Y), 65535}
	case color.Gray16:
		return []int{int(n.Y), int(n.Y), int(n.Y), 65535}
	case color.NRGBA:
		return []int{257 * int(n.R), 257 * int(n.G), 257 * int(n.B), 257 * int(n.A)}
	case color.NRGBA64:
		return []int{int(n.R), int(n.G), int(n.B), int(n.A)}
	case color.RGBA:
		if n.A == 255 {
			return []int{257 * int(n.R), 257 * int(n.G), 257 * int(n.B), 65535}
		}
	case color.RGBA64:
		if n.A == 65535 {
			return []int{int(n.R), int(n.G), int(n.B), 65535}
		}
	}
	t.Fatalf("%T: %v", c, c)
	return nil
}

// checkElsewhere wants the meaning of a file to be what another reader has of it.
func checkElsewhere(t *testing.T, file string) {
	t.Helper()
	p, code := impl.ReadPng(file)
	if code != 0 {
		t.Fatalf("%.100q: code %d", file, code)
	}
	m := checkP27(t, p)
	picture, err := png.Decode(strings.NewReader(file))
	if err != nil {
		t.Fatalf("%+v: %v", p.Head, err)
	}
	if size := picture.Bounds().Size(); size.X != m.Width || size.Y != m.Height {
		t.Fatalf("%+v: %v", p.Head, size)
	}
	for i := range m.Width * m.Height {
		want := wideColor(t, picture.At(i%m.Width, i/m.Width))
		if got := m.Pixels[4*i : 4*i+4]; !slices.Equal(got, want) {
			t.Fatalf("%+v, clear %v, pixel %d, samples %v: %v; another reader has %v", p.Head, p.Clear, i, p.Raster.Samples, got, want)
		}
	}
}

func TestPicturesForAnotherReader(t *testing.T) {
	told := 0
	eachPng(255, func(p impl.Png) {
		told++
		checkElsewhere(t, pngText(p))
	})
	if told < 500 {
		t.Errorf("only %d pictures", told)
	}
}

func TestPicturesOfAnotherWriter(t *testing.T) {
	files := writtenElsewhere(t)
	r := rand.New(rand.NewSource(256))
	for _, colors := range []int{1, 2, 3, 4, 5, 16, 17, 255, 256} {
		var palette color.Palette
		for range colors {
			palette = append(palette, color.NRGBA{R: byte(r.Intn(256)), G: byte(r.Intn(256)), B: byte(r.Intn(256)), A: byte(255 - r.Intn(2)*r.Intn(256))})
		}
		table := image.NewPaletted(image.Rect(0, 0, 24, 11), palette)
		for i := range table.Pix {
			table.Pix[i] = byte(r.Intn(colors))
		}
		files = append(files, encodedElsewhere(t, table, png.BestCompression))
	}
	for _, level := range []png.CompressionLevel{png.DefaultCompression, png.NoCompression, png.BestSpeed, png.BestCompression} {
		box := image.Rect(0, 0, 17, 24)
		wide, clear, full := image.NewGray16(box), image.NewNRGBA(box), image.NewRGBA(box)
		r.Read(wide.Pix)
		r.Read(clear.Pix)
		r.Read(full.Pix)
		for i := 3; i < len(full.Pix); i += 4 {
			full.Pix[i] = 255
		}
		for _, picture := range []image.Image{wide, clear, full} {
			files = append(files, encodedElsewhere(t, picture, level))
		}
	}
	for _, file := range files {
		checkElsewhere(t, file)
	}
}

func encodedElsewhere(t *testing.T, picture image.Image, level png.CompressionLevel) string {
	t.Helper()
	var file bytes.Buffer
	if err := (&png.Encoder{CompressionLevel: level}).Encode(&file, picture); err != nil {
		t.Fatal(err)
	}
	return file.String()
}
