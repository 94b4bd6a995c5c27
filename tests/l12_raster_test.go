package tests

import (
	"fmt"
	"math"
	"math/rand"
	"slices"
	"strings"
	"testing"

	"loop.example/g00099/impl"
)

const mostSamples = 4 * impl.MaxSide

func fiveDepths() []int { return []int{1, 2, 4, 8, 16} }

// colorRow is a color with its number of channels and its depths, in figures.
type colorRow struct {
	color, channels int
	depths          []int
}

func colorRows() []colorRow {
	return []colorRow{
		{0, 1, []int{1, 2, 4, 8, 16}},
		{2, 3, []int{8, 16}},
		{3, 1, []int{1, 2, 4, 8}},
		{4, 2, []int{8, 16}},
		{6, 4, []int{8, 16}},
	}
}

// colorOf is a row without channels when the number is no color.
func colorOf(color int) colorRow {
	for _, row := range colorRows() {
		if row.color == color {
			return row
		}
	}
	return colorRow{color: color}
}

// noDepths are of no color at all.
func noDepths() []int {
	list := append(oddNumbers(), 3, 5, 6, 7, 9, 10, 12, 15, 17, 24, 31, 32, 33, 48, 63, 64, 65, 128, 256, 1<<32+8, -8, -16)
	return slices.DeleteFunc(list, func(depth int) bool { return slices.Contains(fiveDepths(), depth) })
}

// slowPack lays figures beside one another, the highest first, and cuts them into bytes.
func slowPack(list []int, depth int) string {
	var all strings.Builder
	for _, n := range list {
		all.WriteString(figures(n, depth))
	}
	for all.Len()%8 != 0 {
		all.WriteByte('0')
	}
	var text []byte
	for piece := range slices.Chunk([]byte(all.String()), 8) {
		value := 0
		for _, figure := range piece {
			value = 2*value + int(figure-'0')
		}
		text = append(text, byte(value))
	}
	return string(text)
}

// slowUnpack goes the same way back, whatever stands in the bits that are left over.
func slowUnpack(text string, count, depth int) []int {
	var all strings.Builder
	for i := range len(text) {
		all.WriteString(figures(int(text[i]), 8))
	}
	list := make([]int, count)
	for i := range list {
		for _, figure := range all.String()[i*depth : (i+1)*depth] {
			list[i] = 2*list[i] + int(figure-'0')
		}
	}
	return list
}

// bytesNeeded counts bits up to whole bytes.
func bytesNeeded(count, depth int) int {
	size := 0
	for 8*size < count*depth {
		size++
	}
	return size
}

// rowCounts are none, one, as many as fill whole bytes, one more and one less, and as many as there may be.
func rowCounts(depth int) []int {
	whole := max(1, 8/depth)
	counts := []int{0, 1, 2, 3, mostSamples - 1, mostSamples}
	for bytes := 1; bytes*whole <= mostSamples; bytes++ {
		counts = append(counts, bytes*whole-1, bytes*whole, bytes*whole+1)
	}
	slices.Sort(counts)
	counts = slices.Compact(counts)
	return slices.DeleteFunc(counts, func(count int) bool { return count > mostSamples })
}

// samplesInTurn goes through the numbers from first on, and round.
func samplesInTurn(first, count, depth int) []int {
	list := make([]int, count)
	for i := range list {
		list[i] = (first + i) % (1 << depth)
	}
	return list
}

func mixedSamples(r *rand.Rand, count, depth int) []int {
	list := make([]int, count)
	for i := range list {
		list[i] = r.Intn(1 << depth)
	}
	return list
}

// sampleLists are lists of so many samples: all 0, all the greatest, each in turn, one alone among others, mixed.
func sampleLists(r *rand.Rand, count, depth int) [][]int {
	most := 1<<depth - 1
	lists := [][]int{
		make([]int, count),
		slices.Repeat([]int{most}, count),
		samplesInTurn(0, count, depth),
		samplesInTurn(most, count, depth),
		mixedSamples(r, count, depth),
		mixedSamples(r, count, depth),
	}
	for _, at := range []int{0, count / 2, count - 1} {
		if at >= 0 && at < count {
			one, other := make([]int, count), slices.Repeat([]int{most}, count)
			one[at], other[at] = most, 0
			lists = append(lists, one, other)
		}
	}
	return lists
}

// checkP12 wants the list again, of just as many bytes as it needs.
func checkP12(t *testing.T, list []int, depth int) {
	t.Helper()
	text, ok := impl.PackRow(list, depth)
	if !ok || len(text) != bytesNeeded(len(list), depth) || text != slowPack(list, depth) {
		t.Fatalf("%v of depth %d: %q, %v; want %q", list, depth, text, ok, slowPack(list, depth))
	}
	back, ok := impl.UnpackRow(text, len(list), depth)
	if !ok || !slices.Equal(back, list) {
		t.Fatalf("%v of depth %d, by %q: %v, %v", list, depth, text, back, ok)
	}
}

func TestP12RowsComeBack(t *testing.T) {
	r := rand.New(rand.NewSource(151))
	for _, depth := range fiveDepths() {
		for _, count := range rowCounts(depth) {
			for _, list := range sampleLists(r, count, depth) {
				checkP12(t, list, depth)
			}
		}
		checkP12(t, nil, depth)
	}
}

// Each sample there is, at each place of a byte.
func TestP12EachSample(t *testing.T) {
	for _, depth := range fiveDepths() {
		for first := 0; first < 1<<depth; first += mostSamples {
			for ahead := range max(1, 8/depth) {
				list := append(make([]int, ahead), samplesInTurn(first, mostSamples-ahead, depth)...)
				checkP12(t, list, depth)
			}
			checkP12(t, samplesInTurn(first, mostSamples, depth), depth)
		}
		for sample := 0; sample < 1<<depth; sample += max(1, 1<<depth/1024) {
			checkP12(t, []int{sample}, depth)
			checkP12(t, []int{0, sample}, depth)
			checkP12(t, slices.Repeat([]int{sample}, 9), depth)
		}
	}
}

// Two bytes that are filled to the last bit go the other way round, too.
func TestP12BytesComeBack(t *testing.T) {
	for _, depth := range fiveDepths() {
		for word := range 1 << 16 {
			text := string([]byte{byte(word / 256), byte(word % 256)})
			list, ok := impl.UnpackRow(text, 16/depth, depth)
			if !ok || !slices.Equal(list, slowUnpack(text, 16/depth, depth)) {
				t.Fatalf("%q of depth %d: %v, %v", text, depth, list, ok)
			}
			if back, ok := impl.PackRow(list, depth); !ok || back != text {
				t.Fatalf("%q of depth %d, by %v: %q, %v", text, depth, list, back, ok)
			}
		}
	}
}

// All lists of a few samples.
func TestP12AllShortLists(t *testing.T) {
	for depth, most := range map[int]int{1: 10, 2: 5, 4: 3} {
		for count := range most + 1 {
			for all := range 1 << (depth * count) {
				list := make([]int, count)
				for i := range list {
					list[i] = all >> (depth * i) % (1 << depth)
				}
				checkP12(t, list, depth)
			}
		}
	}
}

func TestChannelsOf(t *testing.T) {
	for i, want := range []int{0, 1, 0, 3, 1, 2, 0, 4, 0, 0} {
		if got := impl.ChannelsOf(i - 1); got != want {
			t.Errorf("color %d: %d channels, not %d", i-1, got, want)
		}
	}
	for name, got := range map[string][2]int{
		"ColorGray":      {impl.ChannelsOf(impl.ColorGray), 1},
		"ColorFull":      {impl.ChannelsOf(impl.ColorFull), 3},
		"ColorTable":     {impl.ChannelsOf(impl.ColorTable), 1},
		"ColorGrayClear": {impl.ChannelsOf(impl.ColorGrayClear), 2},
		"ColorFullClear": {impl.ChannelsOf(impl.ColorFullClear), 4},
	} {
		if got[0] != got[1] {
			t.Errorf("%s: %d channels, not %d", name, got[0], got[1])
		}
	}
	far := append(oddNumbers(), -6, 16, 256, 258, 259, 262, 1<<32+6, -1<<32+6, -1<<32)
	for n := -300; n <= 300; n++ {
		far = append(far, n)
	}
	for _, color := range far {
		if got := impl.ChannelsOf(color); got != colorOf(color).channels {
			t.Errorf("color %d: %d channels", color, got)
		}
	}
}

func TestDepthOk(t *testing.T) {
	right := 0
	for color := -1; color <= 8; color++ {
		for depth := -1; depth <= 33; depth++ {
			want := slices.Contains(colorOf(color).depths, depth)
			if got := impl.DepthOk(color, depth); got != want {
				t.Errorf("color %d, depth %d: %v", color, depth, got)
			}
			if want {
				right++
			}
		}
		for _, depth := range noDepths() {
			if impl.DepthOk(color, depth) {
				t.Errorf("color %d has the depth %d", color, depth)
			}
		}
	}
	if right != 15 {
		t.Errorf("%d depths are right, not 15", right)
	}
	for _, color := range []int{math.MinInt, math.MaxInt, -6, -2, 10, 256, 1 << 32, 1<<32 + 2, 1<<32 + 6, -1 << 32} {
		for depth := -1; depth <= 33; depth++ {
			if impl.DepthOk(color, depth) {
				t.Errorf("color %d has the depth %d", color, depth)
			}
		}
	}
}

// rasterOf is a right raster when its numbers are.
func rasterOf(r *rand.Rand, width, height int, row colorRow, depth int) impl.Raster {
	samples := mixedSamples(r, max(0, width)*max(0, height)*row.channels, depth)
	return impl.Raster{Width: width, Height: height, Color: row.color, Depth: depth, Samples: samples}
}

func checkRaster(t *testing.T, name string, r impl.Raster, want bool) {
	t.Helper()
	if impl.RasterOk(r) != want {
		t.Errorf("%s: %d by %d, color %d, depth %d, %d samples: not %v", name, r.Width, r.Height, r.Color, r.Depth, len(r.Samples), want)
	}
}

// eachRaster tells rasters of every color with every depth, of several sizes.
func eachRaster(tell func(impl.Raster)) {
	r := rand.New(rand.NewSource(152))
	for _, row := range colorRows() {
		for _, depth := range row.depths {
			for _, size := range [][2]int{{1, 1}, {1, 2}, {2, 1}, {3, 5}, {1, impl.MaxSide}, {impl.MaxSide, 1}, {7, impl.MaxSide}, {impl.MaxSide, impl.MaxSide}} {
				tell(rasterOf(r, size[0], size[1], row, depth))
			}
		}
	}
}

func TestRasterOk(t *testing.T) {
	told := 0
	eachRaster(func(r impl.Raster) {
		told++
		checkRaster(t, "right", r, true)
		size := len(r.Samples)
		r.Samples = make([]int, size)
		checkRaster(t, "all 0", r, true)
		r.Samples = slices.Repeat([]int{1<<r.Depth - 1}, size)
		checkRaster(t, "all the greatest", r, true)
	})
	if told != 8*15 {
		t.Errorf("%d rasters", told)
	}
	checkRaster(t, "the zero value", impl.Raster{}, false)
}

func TestRasterOkSides(t *testing.T) {
	r := rand.New(rand.NewSource(153))
	sides := []int{math.MinInt, -1 << 32, -impl.MaxSide, -2, -1, 0, 1, 2, impl.MaxSide - 1, impl.MaxSide, impl.MaxSide + 1, impl.MaxSide + 2, 100}
	for _, row := range colorRows() {
		for _, depth := range row.depths {
			for _, width := range sides {
				for _, height := range sides {
					want := width >= 1 && width <= 24 && height >= 1 && height <= 24
					checkRaster(t, "sides", rasterOf(r, width, height, row, depth), want)
				}
			}
		}
	}
}

// Sides whose product is as many as there are, or wraps round to that, but that are none.
func TestRasterOkFarSides(t *testing.T) {
	for _, row := range colorRows() {
		for _, depth := range row.depths {
			for _, c := range []struct{ width, height, size int }{
				{0, 0, 0}, {0, 5, 0}, {5, 0, 0}, {-1, -1, 1}, {-2, -3, 6}, {-1, 4, 4}, {4, -1, 4},
				{25, 1, 25}, {1, 25, 25}, {48, 12, 576}, {12, 48, 576},
				{1 << 32, 1 << 32, 0}, {1 << 62, 4, 0}, {4, 1 << 62, 0}, {1 << 63 / 2, 8, 0},
				{math.MinInt, 2, 0}, {2, math.MinInt, 0}, {math.MinInt, math.MinInt, 0},
				{math.MaxInt, math.MaxInt, 1}, {1<<32 + 1, 1, 1}, {1, 1<<32 + 1, 1}, {1 << 60, 1, 0}, {math.MaxInt, 1, 0},
			} {
				raster := impl.Raster{Width: c.width, Height: c.height, Color: row.color, Depth: depth, Samples: make([]int, c.size*row.channels)}
				checkRaster(t, "far sides", raster, false)
				raster.Samples = nil
				checkRaster(t, "far sides without samples", raster, false)
			}
		}
	}
}

// One fewer and one more than asked, however many a pixel or a row has.
func TestRasterOkNumberOfSamples(t *testing.T) {
	eachRaster(func(r impl.Raster) {
		right, channels := r.Samples, colorOf(r.Color).channels
		row := r.Width * channels
		for _, size := range []int{0, len(right) - 1, len(right) + 1, len(right) - channels, len(right) + channels, len(right) - row, len(right) + row, 2 * len(right), r.Width * r.Height} {
			if size == len(right) {
				continue
			}
			r.Samples = make([]int, size)
			checkRaster(t, fmt.Sprintf("%d samples in place of %d", size, len(right)), r, false)
		}
		// Room behind the samples is none of them.
		short, _ := spared(right)
		r.Samples = short[:len(right)-1]
		checkRaster(t, "one fewer, with room behind", r, false)
		r.Samples = short
		checkRaster(t, "as many, with room behind", r, true)
	})
}

// A wrong sample at each place, so that no row and no channel is passed over.
func TestRasterOkEachSample(t *testing.T) {
	eachRaster(func(r impl.Raster) {
		most := 1<<r.Depth - 1
		for at := range r.Samples {
			right := r.Samples[at]
			for _, wrong := range []int{-1, most + 1} {
				r.Samples[at] = wrong
				checkRaster(t, fmt.Sprintf("%d at %d", wrong, at), r, false)
			}
			for _, edge := range []int{0, most} {
				r.Samples[at] = edge
				checkRaster(t, fmt.Sprintf("%d at %d", edge, at), r, true)
			}
			r.Samples[at] = right
		}
		for _, wrong := range []int{math.MinInt, -1 << 32, -most - 1, most + 2, 1 << 16, 1 << 32, 1<<32 + 1, math.MaxInt} {
			last := len(r.Samples) - 1
			right := r.Samples[last]
			r.Samples[last] = wrong
			checkRaster(t, fmt.Sprintf("%d at the end", wrong), r, false)
			r.Samples[last] = right
		}
		checkRaster(t, "right again", r, true)
	})
}

func TestRasterOkColorsAndDepths(t *testing.T) {
	for color := -1; color <= 8; color++ {
		for depth := -1; depth <= 33; depth++ {
			row := colorOf(color)
			want := slices.Contains(row.depths, depth)
			for _, channels := range []int{0, 1, 2, 3, 4} {
				raster := impl.Raster{Width: 3, Height: 2, Color: color, Depth: depth, Samples: make([]int, 6*channels)}
				checkRaster(t, "color and depth", raster, want && channels == row.channels)
			}
		}
		for _, depth := range noDepths() {
			for _, samples := range [][]int{nil, {0}, {0, 0}, {0, 0, 0}, {0, 0, 0, 0}} {
				checkRaster(t, "no depth", impl.Raster{Width: 1, Height: 1, Color: color, Depth: depth, Samples: samples}, false)
			}
		}
	}
	for _, color := range []int{math.MinInt, math.MaxInt, 1 << 32, 1<<32 + 6, 256} {
		for _, samples := range [][]int{nil, {0}, {0, 0}, {0, 0, 0}, {0, 0, 0, 0}} {
			checkRaster(t, "no color", impl.Raster{Width: 1, Height: 1, Color: color, Depth: 8, Samples: samples}, false)
		}
	}
}

// Of the widths 1 to 9, and MaxSide.
func TestRowBytes(t *testing.T) {
	for _, c := range []struct {
		color, depth int
		want         [10]int
	}{
		{0, 1, [10]int{1, 1, 1, 1, 1, 1, 1, 1, 2, 3}},
		{0, 2, [10]int{1, 1, 1, 1, 2, 2, 2, 2, 3, 6}},
		{0, 4, [10]int{1, 1, 2, 2, 3, 3, 4, 4, 5, 12}},
		{0, 8, [10]int{1, 2, 3, 4, 5, 6, 7, 8, 9, 24}},
		{0, 16, [10]int{2, 4, 6, 8, 10, 12, 14, 16, 18, 48}},
		{2, 8, [10]int{3, 6, 9, 12, 15, 18, 21, 24, 27, 72}},
		{2, 16, [10]int{6, 12, 18, 24, 30, 36, 42, 48, 54, 144}},
		{3, 1, [10]int{1, 1, 1, 1, 1, 1, 1, 1, 2, 3}},
		{3, 2, [10]int{1, 1, 1, 1, 2, 2, 2, 2, 3, 6}},
		{3, 4, [10]int{1, 1, 2, 2, 3, 3, 4, 4, 5, 12}},
		{3, 8, [10]int{1, 2, 3, 4, 5, 6, 7, 8, 9, 24}},
		{4, 8, [10]int{2, 4, 6, 8, 10, 12, 14, 16, 18, 48}},
		{4, 16, [10]int{4, 8, 12, 16, 20, 24, 28, 32, 36, 96}},
		{6, 8, [10]int{4, 8, 12, 16, 20, 24, 28, 32, 36, 96}},
		{6, 16, [10]int{8, 16, 24, 32, 40, 48, 56, 64, 72, 192}},
	} {
		for i, width := range []int{1, 2, 3, 4, 5, 6, 7, 8, 9, impl.MaxSide} {
			if got := impl.RowBytes(width, c.color, c.depth); got != c.want[i] {
				t.Errorf("width %d, color %d, depth %d: %d bytes, not %d", width, c.color, c.depth, got, c.want[i])
			}
		}
		for _, width := range []int{math.MinInt, -1 << 32, -24, -1, 0, impl.MaxSide + 1, 26, 100, 1 << 32, 1<<32 + 1, 1 << 60, 1 << 62, math.MaxInt} {
			if got := impl.RowBytes(width, c.color, c.depth); got != 0 {
				t.Errorf("width %d, color %d, depth %d: %d bytes", width, c.color, c.depth, got)
			}
		}
	}
}

func TestRowBytesOfEachColorAndDepth(t *testing.T) {
	for color := -1; color <= 8; color++ {
		depths := noDepths()
		for depth := -1; depth <= 33; depth++ {
			depths = append(depths, depth)
		}
		for _, depth := range depths {
			row := colorOf(color)
			for width := -3; width <= impl.MaxSide+3; width++ {
				want := 0
				if slices.Contains(row.depths, depth) && width >= 1 && width <= 24 {
					want = bytesNeeded(width*row.channels, depth)
				}
				if got := impl.RowBytes(width, color, depth); got != want {
					t.Errorf("width %d, color %d, depth %d: %d bytes, not %d", width, color, depth, got, want)
				}
			}
		}
	}
}

// A row of a right raster packs into just RowBytes bytes.
func TestRowBytesArePacked(t *testing.T) {
	r := rand.New(rand.NewSource(154))
	for _, row := range colorRows() {
		for _, depth := range row.depths {
			for width := 1; width <= impl.MaxSide; width++ {
				text, ok := impl.PackRow(mixedSamples(r, width*row.channels, depth), depth)
				if !ok || len(text) != impl.RowBytes(width, row.color, depth) {
					t.Errorf("width %d, color %d, depth %d: %d bytes, %v", width, row.color, depth, len(text), ok)
				}
			}
		}
	}
}

func TestPackRow(t *testing.T) {
	for _, c := range []struct {
		list  []int
		depth int
		want  string
	}{
		{nil, 1, ""}, {nil, 2, ""}, {nil, 4, ""}, {[]int{}, 8, ""}, {[]int{}, 16, ""},
		{[]int{1}, 1, "\x80"},
		{[]int{0}, 1, "\x00"},
		{[]int{0, 1}, 1, "\x40"},
		{[]int{1, 0, 1}, 1, "\xa0"},
		{[]int{0, 0, 0, 0, 0, 0, 1}, 1, "\x02"},
		{[]int{0, 0, 0, 0, 0, 0, 0, 1}, 1, "\x01"},
		{[]int{1, 1, 0, 0, 1, 0, 1, 0}, 1, "\xca"},
		{[]int{0, 0, 0, 0, 0, 0, 0, 1, 1}, 1, "\x01\x80"},
		{[]int{1}, 2, "\x40"},
		{[]int{2}, 2, "\x80"},
		{[]int{3, 2, 1, 0}, 2, "\xe4"},
		{[]int{0, 1, 2}, 2, "\x18"},
		{[]int{0, 1, 2, 3}, 2, "\x1b"},
		{[]int{0, 0, 0, 1, 2}, 2, "\x01\x80"},
		{[]int{7}, 4, "\x70"},
		{[]int{1, 2}, 4, "\x12"},
		{[]int{15, 0, 10}, 4, "\xf0\xa0"},
		{[]int{8, 9, 10, 11}, 4, "\x89\xab"},
		{[]int{0}, 8, "\x00"},
		{[]int{255, 1, 128}, 8, "\xff\x01\x80"},
		{[]int{0}, 16, "\x00\x00"},
		{[]int{1}, 16, "\x00\x01"},
		{[]int{256}, 16, "\x01\x00"},
		{[]int{65535, 4660, 255, 65280}, 16, "\xff\xff\x12\x34\x00\xff\xff\x00"},
	} {
		if text, ok := impl.PackRow(c.list, c.depth); !ok || text != c.want {
			t.Errorf("%v of depth %d: %q, %v; want %q", c.list, c.depth, text, ok, c.want)
		}
		if list, ok := impl.UnpackRow(c.want, len(c.list), c.depth); !ok || !slices.Equal(list, c.list) {
			t.Errorf("%q of depth %d: %v, %v; want %v", c.want, c.depth, list, ok, c.list)
		}
	}
}

func checkNoPack(t *testing.T, name string, list []int, depth int) {
	t.Helper()
	if text, ok := impl.PackRow(list, depth); ok || text != "" {
		t.Errorf("%s: %d samples of depth %d: %q, %v", name, len(list), depth, text, ok)
	}
}

func TestPackRowRefusesDepths(t *testing.T) {
	depths := noDepths()
	for depth := -1; depth <= 33; depth++ {
		if !slices.Contains(fiveDepths(), depth) {
			depths = append(depths, depth)
		}
	}
	for _, depth := range depths {
		for _, list := range [][]int{nil, {}, {0}, {1}, {-1}, {0, 0, 0}, make([]int, 8), make([]int, mostSamples), make([]int, mostSamples+1)} {
			checkNoPack(t, "no depth", list, depth)
		}
	}
}

func TestPackRowRefusesMany(t *testing.T) {
	for _, depth := range fiveDepths() {
		for _, size := range []int{mostSamples - 1, mostSamples} {
			if text, ok := impl.PackRow(make([]int, size), depth); !ok || text != strings.Repeat("\x00", bytesNeeded(size, depth)) {
				t.Errorf("%d samples of depth %d: %q, %v", size, depth, text, ok)
			}
		}
		for _, size := range []int{mostSamples + 1, mostSamples + 8, 2 * mostSamples, 1 << 16} {
			checkNoPack(t, "too many", make([]int, size), depth)
			checkNoPack(t, "too many", slices.Repeat([]int{1<<depth - 1}, size), depth)
		}
	}
}

func TestPackRowRefusesSamples(t *testing.T) {
	r := rand.New(rand.NewSource(155))
	for _, depth := range fiveDepths() {
		for _, wrong := range []int{-1, 1 << depth, 1<<depth + 1, -1 << depth, 1 << 16, 1 << 32, 1<<32 + 1, 256 << depth, math.MinInt, math.MaxInt} {
			checkNoPack(t, fmt.Sprint(wrong), []int{wrong}, depth)
			for _, count := range rowCounts(depth) {
				if count == 0 {
					continue
				}
				for _, at := range []int{0, count / 2, count - 1} {
					list := mixedSamples(r, count, depth)
					list[at] = wrong
					checkNoPack(t, fmt.Sprintf("%d at %d", wrong, at), list, depth)
				}
			}
		}
		// Each place of a long row is looked at.
		for at := range mostSamples {
			for _, wrong := range []int{-1, 1 << depth} {
				list := mixedSamples(r, mostSamples, depth)
				list[at] = wrong
				checkNoPack(t, fmt.Sprintf("%d at %d", wrong, at), list, depth)
			}
		}
	}
}

func TestUnpackRow(t *testing.T) {
	for _, c := range []struct {
		text         string
		count, depth int
		want         []int
	}{
		{"\xe4", 4, 2, []int{3, 2, 1, 0}},
		{"\xe4", 3, 2, []int{3, 2, 1}},
		{"\xe4", 2, 2, []int{3, 2}},
		{"\xe4", 1, 2, []int{3}},
		{"\xa0", 3, 1, []int{1, 0, 1}},
		{"\xbf", 3, 1, []int{1, 0, 1}},
		{"\x7f", 1, 1, []int{0}},
		{"\x80", 1, 1, []int{1}},
		{"\x01\x80", 9, 1, []int{0, 0, 0, 0, 0, 0, 0, 1, 1}},
		{"\x01\xff", 9, 1, []int{0, 0, 0, 0, 0, 0, 0, 1, 1}},
		{"\xfe\x7f", 9, 1, []int{1, 1, 1, 1, 1, 1, 1, 0, 0}},
		{"\xf0\xa0", 3, 4, []int{15, 0, 10}},
		{"\xf0\xaf", 3, 4, []int{15, 0, 10}},
		{"\xff\x01", 2, 8, []int{255, 1}},
		{"\x12\x34\xff\x00", 2, 16, []int{4660, 65280}},
	} {
		if list, ok := impl.UnpackRow(c.text, c.count, c.depth); !ok || !slices.Equal(list, c.want) {
			t.Errorf("%q of depth %d: %v, %v; want %v", c.text, c.depth, list, ok, c.want)
		}
	}
}

// Whatever stands in the bits that are left over, the samples are the same.
func TestUnpackRowLeftOver(t *testing.T) {
	r := rand.New(rand.NewSource(156))
	for _, depth := range []int{1, 2, 4} {
		for count := 1; count <= mostSamples; count++ {
			left := 8*bytesNeeded(count, depth) - count*depth
			for _, list := range sampleLists(r, count, depth) {
				text, ok := impl.PackRow(list, depth)
				if !ok || int(text[len(text)-1])%(1<<left) != 0 {
					t.Fatalf("%v of depth %d: %q, %v", list, depth, text, ok)
				}
				for more := range 1 << left {
					other := turnedAt(text, len(text)-1, byte(more))
					if back, ok := impl.UnpackRow(other, count, depth); !ok || !slices.Equal(back, list) {
						t.Fatalf("%q, %d of depth %d: %v, %v; want %v", other, count, depth, back, ok, list)
					}
				}
			}
		}
	}
}

func TestUnpackRowOfAnyBytes(t *testing.T) {
	r := rand.New(rand.NewSource(157))
	for _, depth := range fiveDepths() {
		for count := range mostSamples + 1 {
			for range 20 {
				text := randomText(r, bytesNeeded(count, depth))
				if list, ok := impl.UnpackRow(text, count, depth); !ok || !slices.Equal(list, slowUnpack(text, count, depth)) {
					t.Fatalf("%q, %d of depth %d: %v, %v", text, count, depth, list, ok)
				}
			}
		}
	}
}

func checkNoUnpack(t *testing.T, name, text string, count, depth int) {
	t.Helper()
	if list, ok := impl.UnpackRow(text, count, depth); ok || len(list) != 0 {
		t.Errorf("%s: %d bytes, %d samples of depth %d: %v, %v", name, len(text), count, depth, list, ok)
	}
}

func TestUnpackRowRefusesSizes(t *testing.T) {
	for _, depth := range fiveDepths() {
		for count := range mostSamples + 1 {
			need := bytesNeeded(count, depth)
			for size := range need + 4 {
				if size != need {
					checkNoUnpack(t, "another size", strings.Repeat("\x00", size), count, depth)
				}
			}
			for _, size := range []int{2*need + 1, need + 256, impl.MaxBytes, 1 << 16} {
				checkNoUnpack(t, "far too many", strings.Repeat("\xff", size), count, depth)
			}
			if list, ok := impl.UnpackRow(strings.Repeat("\x00", need), count, depth); !ok || !slices.Equal(list, make([]int, count)) {
				t.Errorf("%d samples of depth %d: %v, %v", count, depth, list, ok)
			}
		}
	}
}

func TestUnpackRowRefusesCounts(t *testing.T) {
	for _, depth := range fiveDepths() {
		if list, ok := impl.UnpackRow("", 0, depth); !ok || len(list) != 0 {
			t.Errorf("no samples of depth %d: %v, %v", depth, list, ok)
		}
		full := strings.Repeat("\xff", bytesNeeded(mostSamples, depth))
		if list, ok := impl.UnpackRow(full, mostSamples, depth); !ok || !slices.Equal(list, slices.Repeat([]int{1<<depth - 1}, mostSamples)) {
			t.Errorf("%d samples of depth %d: %v, %v", mostSamples, depth, list, ok)
		}
		for count := mostSamples + 1; count <= mostSamples+20; count++ {
			checkNoUnpack(t, "too many", strings.Repeat("\x00", bytesNeeded(count, depth)), count, depth)
			checkNoUnpack(t, "too many", full, count, depth)
		}
		// Among them such as wrap round to no bits at all.
		for _, count := range []int{-1, -2, -7, -8, -9, -96, -1 << 32, 1 << 32, 1 << 60, 1 << 61, 1 << 62, -1 << 60, math.MinInt, math.MinInt + 1, math.MaxInt - 1, math.MaxInt} {
			for _, text := range []string{"", "\x00", "\x00\x00", "\x00\x00\x00\x00", full} {
				checkNoUnpack(t, "no count", text, count, depth)
			}
		}
	}
}

func TestUnpackRowRefusesDepths(t *testing.T) {
	depths := noDepths()
	for depth := -1; depth <= 33; depth++ {
		if !slices.Contains(fiveDepths(), depth) {
			depths = append(depths, depth)
		}
	}
	for _, depth := range depths {
		for _, count := range []int{-1, 0, 1, 2, 8, mostSamples, mostSamples + 1} {
			for size := range 5 {
				checkNoUnpack(t, "no depth", strings.Repeat("\x00", size), count, depth)
			}
			if depth > 0 && depth < 100 && count >= 0 {
				checkNoUnpack(t, "no depth", strings.Repeat("\x00", bytesNeeded(count, depth)), count, depth)
			}
		}
	}
}

func TestRastersLeaveArgumentsAlone(t *testing.T) {
	right := []int{3, 2, 1, 0, 1, 2}
	list, room := spared(right)
	impl.PackRow(list, 2)
	impl.PackRow(list, 1)
	impl.RasterOk(impl.Raster{Width: 3, Height: 2, Depth: 2, Samples: list})
	impl.RasterOk(impl.Raster{Width: 3, Height: 3, Depth: 2, Samples: list})
	impl.RasterOk(impl.Raster{Width: 3, Height: 2, Depth: 1, Samples: list})
	if !slices.Equal(room, []int{3, 2, 1, 0, 1, 2, 77, 77, 77}) {
		t.Errorf("the samples became %v", room)
	}
	one, _ := impl.UnpackRow("\xe4\x60", 6, 2)
	for i := range one {
		one[i] = -9
	}
	if two, ok := impl.UnpackRow("\xe4\x60", 6, 2); !ok || !slices.Equal(two, right) {
		t.Errorf("a second call: %v, %v", two, ok)
	}
}
