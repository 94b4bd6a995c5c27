package tests

import (
	"bytes"
	"compress/zlib"
	"encoding/binary"
	"fmt"
	"hash/crc32"
	"image"
	"image/color"
	"image/png"
	"math"
	"math/rand"
	"slices"
	"strings"
	"testing"

	"loop.example/g00099/impl"
)

func bothLaces() []bool { return []bool{false, true} }

// slowUnit counts the whole bytes that a pixel fills.
func slowUnit(r impl.Raster) int {
	unit := 0
	for bits := colorOf(r.Color).channels * r.Depth; bits >= 8; bits -= 8 {
		unit++
	}
	return max(1, unit)
}

// slowParts are the rasters whose rows are told, those without any pixel left out.
func slowParts(r impl.Raster, lace bool) []impl.Raster {
	if !lace {
		return []impl.Raster{r}
	}
	return slices.DeleteFunc(slowPasses(r), func(pass impl.Raster) bool { return len(pass.Samples) == 0 })
}

// packedRows are the rows of one part in bytes.
func packedRows(part impl.Raster) []string {
	var rows []string
	for samples := range slices.Chunk(part.Samples, part.Width*colorOf(part.Color).channels) {
		rows = append(rows, slowPack(samples, part.Depth))
	}
	return rows
}

// filteredRows tells each row by the kind that is picked for it, from a row of zeros on.
func filteredRows(rows []string, unit int, pick func(y int, row, above string) int) string {
	var told strings.Builder
	above := strings.Repeat("\x00", len(rows[0]))
	for y, row := range rows {
		kind := pick(y, row, above)
		told.WriteByte(byte(kind))
		told.WriteString(slowFilter(kind, row, above, unit))
		above = row
	}
	return told.String()
}

func slowScan(r impl.Raster, lace bool, way int) string {
	var told strings.Builder
	unit := slowUnit(r)
	for _, part := range slowParts(r, lace) {
		told.WriteString(filteredRows(packedRows(part), unit, func(_ int, row, above string) int {
			if way == impl.WayBest {
				return lightest(row, above, unit)[0]
			}
			return way
		}))
	}
	return told.String()
}

// mixedScan tells the raster with any kinds in turn, as no way does.
func mixedScan(r *rand.Rand, raster impl.Raster, lace bool) string {
	var told strings.Builder
	for _, part := range slowParts(raster, lace) {
		told.WriteString(filteredRows(packedRows(part), slowUnit(raster), func(int, string, string) int { return r.Intn(lastKind + 1) }))
	}
	return told.String()
}

// slowScanBytes counts rows and bytes.
func slowScanBytes(width, height int, row colorRow, depth int, lace bool) int {
	size := 0
	if !lace {
		for range height {
			size += 1 + bytesNeeded(width*row.channels, depth)
		}
		return size
	}
	for pass := range sevenPasses {
		columns, rows := slowPassSize(width, height, pass)
		for range rows {
			size += 1 + bytesNeeded(columns*row.channels, depth)
		}
	}
	return size
}

// kindPlaces are the places at which the kinds of all rows stand.
func kindPlaces(r impl.Raster, lace bool) []int {
	var places []int
	at := 0
	for _, part := range slowParts(r, lace) {
		for range part.Height {
			places = append(places, at)
			at += 1 + bytesNeeded(part.Width*colorOf(part.Color).channels, part.Depth)
		}
	}
	return places
}

func scanOf(t *testing.T, r impl.Raster, lace bool, way int) string {
	t.Helper()
	told, ok := impl.ScanOf(r, lace, way)
	if !ok || told == "" {
		t.Fatalf("%d by %d, color %d, depth %d, lace %v, way %d: %q, %v", r.Width, r.Height, r.Color, r.Depth, lace, way, told, ok)
	}
	return told
}

// checkScanned wants just this raster.
func checkScanned(t *testing.T, name, text string, want impl.Raster, lace bool) {
	t.Helper()
	got, code := impl.ScanRead(text, want.Width, want.Height, want.Color, want.Depth, lace)
	if code != 0 || !sameRaster(got, want) {
		t.Fatalf("%s: %d by %d, color %d, depth %d, lace %v, of %q: %v, code %d; want %v", name, want.Width, want.Height, want.Color, want.Depth, lace, text, got, code, want)
	}
}

// checkUnscanned wants this code, and nothing beside it.
func checkUnscanned(t *testing.T, name, text string, width, height, color, depth int, lace bool, want int) {
	t.Helper()
	got, code := impl.ScanRead(text, width, height, color, depth, lace)
	if code != want || !sameRaster(got, impl.Raster{}) {
		t.Errorf("%s: %d by %d, color %d, depth %d, lace %v, of %d bytes: %v, code %d; want code %d", name, width, height, color, depth, lace, len(text), got, code, want)
	}
}

// checkP15 wants the raster again, by every way, with passes and without, from as many bytes as are foretold.
func checkP15(t *testing.T, r impl.Raster) {
	t.Helper()
	for _, lace := range bothLaces() {
		size := impl.ScanBytes(r.Width, r.Height, r.Color, r.Depth, lace)
		for way := 0; way <= impl.WayBest; way++ {
			told := scanOf(t, r, lace, way)
			if len(told) != size {
				t.Fatalf("%d by %d, color %d, depth %d, lace %v, way %d: %d bytes, not %d", r.Width, r.Height, r.Color, r.Depth, lace, way, len(told), size)
			}
			checkScanned(t, fmt.Sprintf("way %d", way), told, r, lace)
		}
	}
}

// nearRaster has samples that are each a little more or less than those beside, so that kinds are told apart.
func nearRaster(r *rand.Rand, width, height int, row colorRow, depth int) impl.Raster {
	raster := impl.Raster{Width: width, Height: height, Color: row.color, Depth: depth}
	for i := range width * height * row.channels {
		n := i%row.channels*50 + i/row.channels%width*3 + i/row.channels/width*5 + r.Intn(4)
		raster.Samples = append(raster.Samples, n%(1<<depth))
	}
	return raster
}

func TestP15RastersComeBack(t *testing.T) {
	r := rand.New(rand.NewSource(181))
	told := 0
	eachKind(func(row colorRow, depth int) {
		eachSize(func(width, height int) {
			told++
			checkP15(t, rasterOf(r, width, height, row, depth))
			if (width+2*height)%7 == 0 {
				size := width * height * row.channels
				checkP15(t, nearRaster(r, width, height, row, depth))
				checkP15(t, impl.Raster{Width: width, Height: height, Color: row.color, Depth: depth, Samples: make([]int, size)})
				checkP15(t, impl.Raster{Width: width, Height: height, Color: row.color, Depth: depth, Samples: slices.Repeat([]int{1<<depth - 1}, size)})
			}
		})
	})
	if told != 15*24*24 {
		t.Errorf("%d rasters", told)
	}
}

// Any bytes with right kinds tell a raster, which by the same kinds tells them again where no bits are left over.
func TestP15ScansComeBack(t *testing.T) {
	r := rand.New(rand.NewSource(182))
	eachKind(func(row colorRow, depth int) {
		for _, size := range [][2]int{{1, 1}, {2, 3}, {5, 5}, {8, 8}, {9, 7}, {impl.MaxSide, 1}, {1, impl.MaxSide}, {16, impl.MaxSide}, {impl.MaxSide, impl.MaxSide}} {
			blank := rasterOf(r, size[0], size[1], row, depth)
			for _, lace := range bothLaces() {
				for kind := range lastKind + 1 {
					text := []byte(randomText(r, slowScanBytes(size[0], size[1], row, depth, lace)))
					for _, at := range kindPlaces(blank, lace) {
						text[at] = byte(kind)
					}
					got, code := impl.ScanRead(string(text), size[0], size[1], row.color, depth, lace)
					if code != 0 || !impl.RasterOk(got) || got.Width != size[0] || got.Height != size[1] || got.Color != row.color || got.Depth != depth {
						t.Fatalf("%v, color %d, depth %d, lace %v, kind %d: %v, code %d", size, row.color, depth, lace, kind, got, code)
					}
					if told := scanOf(t, got, lace, kind); depth >= 8 && told != string(text) {
						t.Fatalf("%v, color %d, depth %d, lace %v, kind %d: %q, then %q", size, row.color, depth, lace, kind, text, told)
					}
				}
			}
		}
	})
}

func TestScanOf(t *testing.T) {
	gray := impl.Raster{Width: 2, Height: 2, Depth: 8, Samples: []int{1, 2, 1, 2}}
	full := impl.Raster{Width: 2, Height: 2, Color: 2, Depth: 8, Samples: []int{10, 20, 30, 11, 22, 33, 12, 20, 31, 14, 24, 36}}
	thin := impl.Raster{Width: 3, Height: 2, Depth: 2, Samples: []int{3, 0, 1, 3, 1, 1}}
	wide := impl.Raster{Width: 2, Height: 1, Depth: 16, Samples: []int{258, 515}}
	for _, c := range []struct {
		name   string
		raster impl.Raster
		lace   bool
		way    int
		want   string
	}{
		{"as it is", gray, false, 0, "\x00\x01\x02\x00\x01\x02"},
		{"less the one ahead", gray, false, 1, "\x01\x01\x01\x01\x01\x01"},
		{"less the one above", gray, false, 2, "\x02\x01\x02\x02\x00\x00"},
		{"less the half of both", gray, false, 3, "\x03\x01\x02\x03\x01\x01"},
		{"less the nearest", gray, false, 4, "\x04\x01\x01\x04\x00\x00"},
		{"the best", gray, false, 5, "\x01\x01\x01\x02\x00\x00"},
		{"in passes", gray, true, 0, "\x00\x01\x00\x02\x00\x01\x02"},
		{"in passes, less the one above, which is 0", gray, true, 2, "\x02\x01\x02\x02\x02\x01\x02"},
		{"in passes, the best", gray, true, 5, "\x00\x01\x00\x02\x01\x01\x01"},
		{"three bytes a pixel", full, false, 1, "\x01\x0a\x14\x1e\x01\x02\x03\x01\x0c\x14\x1f\x02\x04\x05"},
		{"three bytes a pixel, the best", full, false, 5, "\x01\x0a\x14\x1e\x01\x02\x03\x04\x02\x00\x01\x02\x02\x03"},
		{"three bytes a pixel, in passes", full, true, 1, "\x01\x0a\x14\x1e\x01\x0b\x16\x21\x01\x0c\x14\x1f\x02\x04\x05"},
		{"bits left over", thin, false, 0, "\x00\xc4\x00\xd4"},
		{"bits left over, less the one above", thin, false, 2, "\x02\xc4\x02\x10"},
		{"bits left over, the half of what is above", thin, false, 3, "\x03\xc4\x03\x72"},
		{"bits left over, in passes", thin, true, 0, "\x00\xc0\x00\x40\x00\x00\x00\xd4"},
		{"two bytes a pixel", wide, false, 1, "\x01\x01\x02\x01\x01"},
		{"two bytes a pixel, in passes", wide, true, 1, "\x01\x01\x02\x01\x02\x03"},
		{"one pixel of eight bytes", impl.Raster{Width: 1, Height: 1, Color: 6, Depth: 16, Samples: []int{1, 2, 3, 65535}}, true, 4, "\x04\x00\x01\x00\x02\x00\x03\xff\xff"},
		{"one pixel of one bit", impl.Raster{Width: 1, Height: 1, Color: 3, Depth: 1, Samples: []int{1}}, false, 1, "\x01\x80"},
		{"one pixel of two channels, the best", impl.Raster{Width: 1, Height: 1, Color: 4, Depth: 8, Samples: []int{9, 250}}, false, 5, "\x00\x09\xfa"},
	} {
		if told, ok := impl.ScanOf(c.raster, c.lace, c.way); !ok || told != c.want {
			t.Errorf("%s: %q, %v; want %q", c.name, told, ok, c.want)
		}
		checkScanned(t, c.name, c.want, c.raster, c.lace)
	}
}

// Of every size, color and depth, against rows that are packed and filtered one by one.
func TestScanOfEachSize(t *testing.T) {
	r := rand.New(rand.NewSource(183))
	met := map[byte]int{}
	eachKind(func(row colorRow, depth int) {
		eachSize(func(width, height int) {
			for way := (width + height) % 3; way <= impl.WayBest; way += 3 {
				for _, lace := range bothLaces() {
					raster := nearRaster(r, width, height, row, depth)
					if (width+height)%2 == 0 {
						raster = rasterOf(r, width, height, row, depth)
					}
					told := scanOf(t, raster, lace, way)
					if want := slowScan(raster, lace, way); told != want {
						t.Fatalf("%v, lace %v, way %d: %q, not %q", raster, lace, way, told, want)
					}
					if way == impl.WayBest {
						for _, at := range kindPlaces(raster, lace) {
							met[told[at]]++
						}
					}
				}
			}
		})
	})
	for kind := range lastKind + 1 {
		if met[byte(kind)] < 100 {
			t.Errorf("kind %d is the best %d times: %v", kind, met[byte(kind)], met)
		}
	}
}

// Each row by the functions that the chapter names.
func TestScanOfIsFilterRow(t *testing.T) {
	eachRaster(func(r impl.Raster) {
		unit := slowUnit(r)
		for way := 0; way <= impl.WayBest; way++ {
			rest := scanOf(t, r, true, way)
			for _, pass := range passesOf(t, r) {
				size := impl.RowBytes(pass.Width, pass.Color, pass.Depth)
				above := strings.Repeat("\x00", size)
				for y := range pass.Height {
					channels := pass.Width * impl.ChannelsOf(pass.Color)
					row, _ := impl.PackRow(pass.Samples[y*channels:(y+1)*channels], pass.Depth)
					kind := way
					if way == impl.WayBest {
						kind, _ = impl.BestFilter(row, above, unit)
					}
					want, ok := impl.FilterRow(kind, row, above, unit)
					if !ok || rest[0] != byte(kind) || rest[1:1+size] != want {
						t.Fatalf("%v, way %d, row %d: %q; want %d and %q", pass, way, y, rest[:1+size], kind, want)
					}
					rest, above = rest[1+size:], row
				}
			}
			if rest != "" {
				t.Fatalf("%v, way %d: %q is left", r, way, rest)
			}
		}
	})
}

// The first row of a raster, and of each pass, stands below zeros, whatever stood at the end of the pass ahead.
func TestScanOfFirstRows(t *testing.T) {
	eachKind(func(row colorRow, depth int) {
		for _, size := range [][2]int{{1, 1}, {8, 8}, {9, 9}, {3, impl.MaxSide}, {impl.MaxSide, 3}, {impl.MaxSide, impl.MaxSide}} {
			raster := impl.Raster{Width: size[0], Height: size[1], Color: row.color, Depth: depth}
			raster.Samples = slices.Repeat([]int{1<<depth - 1}, size[0]*size[1]*row.channels)
			for _, lace := range bothLaces() {
				told, at := scanOf(t, raster, lace, 2), 0
				for n, part := range slowParts(raster, lace) {
					rows := packedRows(part)
					for y, row := range rows {
						want := strings.Repeat("\x00", len(row))
						if y == 0 {
							want = row
						}
						if told[at:at+1+len(row)] != "\x02"+want {
							t.Errorf("%v, color %d, depth %d, lace %v: part %d, row %d is %q", size, raster.Color, depth, lace, n, y, told[at:at+1+len(row)])
						}
						at += 1 + len(row)
					}
				}
			}
		}
	})
}

// One row, one column and one pixel: passes without any pixel have no byte at all.
func TestScanOfPassesWithoutPixels(t *testing.T) {
	for _, c := range []struct {
		width, height int
		want          string
	}{
		{1, 1, "\x00\x00"},
		{2, 1, "\x00\x00\x00\x01"},
		{1, 2, "\x00\x00\x00\x01"},
		{3, 1, "\x00\x00\x00\x02\x00\x01"},
		{1, 3, "\x00\x00\x00\x02\x00\x01"},
		{5, 1, "\x00\x00\x00\x04\x00\x02\x00\x01\x03"},
		{1, 5, "\x00\x00\x00\x04\x00\x02\x00\x01\x00\x03"},
		{9, 1, "\x00\x00\x08\x00\x04\x00\x02\x06\x00\x01\x03\x05\x07"},
		{1, 9, "\x00\x00\x00\x08\x00\x04\x00\x02\x00\x06\x00\x01\x00\x03\x00\x05\x00\x07"},
		{2, 3, "\x00\x00\x00\x04\x00\x01\x00\x05\x00\x02\x03"},
	} {
		raster := impl.Raster{Width: c.width, Height: c.height, Depth: 8, Samples: samplesInTurn(0, c.width*c.height, 8)}
		if told, ok := impl.ScanOf(raster, true, 0); !ok || told != c.want {
			t.Errorf("%d by %d: %q, %v; want %q", c.width, c.height, told, ok, c.want)
		}
		checkScanned(t, "in passes", c.want, raster, true)
	}
}

func checkNoScan(t *testing.T, name string, r impl.Raster, lace bool, way int) {
	t.Helper()
	if told, ok := impl.ScanOf(r, lace, way); ok || told != "" {
		t.Errorf("%s: %d by %d, color %d, depth %d, %d samples, lace %v, way %d: %q, %v", name, r.Width, r.Height, r.Color, r.Depth, len(r.Samples), lace, way, told, ok)
	}
}

func checkNoScans(t *testing.T, name string, r impl.Raster) {
	t.Helper()
	for _, lace := range bothLaces() {
		for _, way := range []int{0, 2, lastKind, impl.WayBest} {
			checkNoScan(t, name, r, lace, way)
		}
		checkNoScan(t, name+", and no way", r, lace, -1)
	}
}

func TestScanOfRefusesSidesColorsAndDepths(t *testing.T) {
	checkNoScans(t, "the zero value", impl.Raster{})
	eachRaster(func(r impl.Raster) {
		channels := colorOf(r.Color).channels
		for _, side := range wrongSides() {
			some := max(0, min(side, 48))
			for _, size := range []int{len(r.Samples), 0, channels * some * r.Height, channels * some * r.Width} {
				for _, sides := range [][2]int{{side, r.Height}, {r.Width, side}, {side, side}} {
					checkNoScans(t, "a wrong side", impl.Raster{Width: sides[0], Height: sides[1], Color: r.Color, Depth: r.Depth, Samples: make([]int, size)})
				}
			}
		}
		for _, color := range wrongColors() {
			checkNoScans(t, "no color", impl.Raster{Width: r.Width, Height: r.Height, Color: color, Depth: r.Depth, Samples: r.Samples})
			checkNoScans(t, "no color, no samples", impl.Raster{Width: r.Width, Height: r.Height, Color: color, Depth: r.Depth})
		}
		for _, depth := range wrongDepths(r.Color) {
			checkNoScans(t, "no depth", impl.Raster{Width: r.Width, Height: r.Height, Color: r.Color, Depth: depth, Samples: make([]int, len(r.Samples))})
		}
		checkNoScans(t, "without any pixel", impl.Raster{Color: r.Color, Depth: r.Depth})
	})
}

func TestScanOfRefusesSamples(t *testing.T) {
	eachRaster(func(r impl.Raster) {
		right := r.Samples
		for _, size := range []int{0, len(right) - 1, len(right) + 1, 2 * len(right)} {
			r.Samples = make([]int, size)
			checkNoScans(t, "another number of samples", r)
		}
		r.Samples, _ = spared(right[:len(right)-1])
		checkNoScans(t, "one fewer, with room behind", r)
		for at := range right {
			for _, wrong := range []int{-1, 1 << r.Depth} {
				r.Samples = slices.Clone(right)
				r.Samples[at] = wrong
				checkNoScan(t, fmt.Sprintf("%d at %d", wrong, at), r, at%2 == 0, at%6)
			}
		}
		for _, wrong := range []int{math.MinInt, -1 << 32, 1 << 16, 1 << 32, 1<<32 + 1, math.MaxInt} {
			r.Samples = slices.Clone(right)
			r.Samples[len(right)-1] = wrong
			checkNoScans(t, fmt.Sprintf("%d at the end", wrong), r)
		}
	})
}

// wrongWays are wrongKinds but for the best one.
func wrongWays() []int {
	return slices.DeleteFunc(append(wrongKinds(), 10, 1<<32+5, -1<<32+5, 261, math.MaxInt-1), func(way int) bool { return way == 5 })
}

func TestScanOfRefusesWays(t *testing.T) {
	for _, way := range []int{-1, 6} {
		if !slices.Contains(wrongWays(), way) {
			t.Errorf("%d is not among the ways", way)
		}
	}
	eachRaster(func(r impl.Raster) {
		for _, way := range wrongWays() {
			checkNoScan(t, "no way", r, false, way)
			checkNoScan(t, "no way", r, true, way)
		}
		scanOf(t, r, false, 0)
		scanOf(t, r, true, impl.WayBest)
	})
}

// wrongColors has those beside the colors, and such as are one in their lower bits alone.
func wrongColors() []int {
	return slices.DeleteFunc(append(oddNumbers(), 1, 5, 7, 8, 256, 258, 1<<32+6, -1<<32+2), func(color int) bool { return colorOf(color).channels > 0 })
}

func wrongDepths(color int) []int {
	return slices.DeleteFunc(append(noDepths(), fiveDepths()...), func(depth int) bool { return slices.Contains(colorOf(color).depths, depth) })
}

func checkScanBytes(t *testing.T, width, height, color, depth int, lace bool, want int) {
	t.Helper()
	if size := impl.ScanBytes(width, height, color, depth, lace); size != want {
		t.Errorf("%d by %d, color %d, depth %d, lace %v: %d bytes, not %d", width, height, color, depth, lace, size, want)
	}
}

func TestScanBytes(t *testing.T) {
	for _, c := range []struct{ width, height, color, depth, plain, laced int }{
		{1, 1, 0, 1, 2, 2},
		{1, 1, 6, 16, 9, 9},
		{2, 2, 0, 8, 6, 7},
		{8, 1, 0, 1, 2, 8},
		{9, 1, 3, 1, 3, 8},
		{1, 8, 0, 1, 16, 16},
		{8, 8, 0, 1, 16, 30},
		{8, 8, 2, 8, 200, 207},
		{5, 5, 4, 8, 55, 61},
		{24, 24, 0, 1, 96, 132},
		{24, 24, 6, 16, 4632, 4653},
		{24, 1, 0, 16, 49, 52},
		{1, 24, 0, 16, 72, 72},
	} {
		checkScanBytes(t, c.width, c.height, c.color, c.depth, false, c.plain)
		checkScanBytes(t, c.width, c.height, c.color, c.depth, true, c.laced)
	}
}

// Of every size, color and depth, against a count and against what ScanOf tells.
func TestScanBytesOfEachSize(t *testing.T) {
	eachKind(func(row colorRow, depth int) {
		eachSize(func(width, height int) {
			raster := impl.Raster{Width: width, Height: height, Color: row.color, Depth: depth, Samples: make([]int, width*height*row.channels)}
			for _, lace := range bothLaces() {
				want := slowScanBytes(width, height, row, depth, lace)
				checkScanBytes(t, width, height, row.color, depth, lace, want)
				if told := scanOf(t, raster, lace, (width+height)%6); len(told) != want {
					t.Errorf("%d by %d, color %d, depth %d, lace %v: %d bytes told, not %d", width, height, row.color, depth, lace, len(told), want)
				}
			}
		})
	})
}

// eachWrongShape tells sides, colors and depths of which at least one is wrong.
func eachWrongShape(tell func(width, height, color, depth int)) {
	sides := []int{1, 2, 8, impl.MaxSide}
	eachKind(func(row colorRow, depth int) {
		for _, wrong := range wrongSides() {
			for _, side := range sides {
				tell(wrong, side, row.color, depth)
				tell(side, wrong, row.color, depth)
			}
			tell(wrong, wrong, row.color, depth)
		}
	})
	for _, side := range sides {
		for _, color := range wrongColors() {
			for _, depth := range append(noDepths(), fiveDepths()...) {
				tell(side, side, color, depth)
			}
		}
		for _, row := range colorRows() {
			for _, depth := range wrongDepths(row.color) {
				tell(side, side, row.color, depth)
			}
		}
	}
	for _, far := range []int{math.MinInt, -1, 0, 1 << 62, math.MaxInt} {
		tell(far, far, far, far)
		tell(far, 1, 0, far)
		tell(1, far, far, 8)
		tell(1, 1, far, far)
	}
}

func TestScanBytesRefuses(t *testing.T) {
	told := 0
	eachWrongShape(func(width, height, color, depth int) {
		told++
		checkScanBytes(t, width, height, color, depth, false, 0)
		checkScanBytes(t, width, height, color, depth, true, 0)
	})
	if told < 3000 {
		t.Errorf("%d shapes", told)
	}
}

func TestScanReadRefusesShapes(t *testing.T) {
	texts := []string{"", "\x00", "\x00\x00", "\x05\x00", strings.Repeat("\x00", 4632)}
	eachWrongShape(func(width, height, color, depth int) {
		for _, text := range texts {
			checkUnscanned(t, "a wrong shape", text, width, height, color, depth, false, impl.ScanSize)
			checkUnscanned(t, "a wrong shape", text, width, height, color, depth, true, impl.ScanSize)
		}
	})
	// A text that would be right, were the one wrong number that it is told for a right one.
	for _, c := range []struct{ width, height, color, depth, size int }{
		{0, 1, 0, 8, 1}, {1, 0, 0, 8, 0}, {0, 3, 0, 8, 3}, {25, 1, 0, 8, 26}, {1, 25, 0, 8, 50}, {25, 25, 6, 16, 25 * 201},
		{8, 1, 2, 1, 4}, {8, 1, 4, 4, 9}, {1, 1, 3, 16, 3}, {1, 1, 1, 8, 2}, {1, 1, 5, 8, 1}, {1, 1, 0, 3, 2}, {1, 1, 0, 32, 5},
	} {
		text := strings.Repeat("\x00", c.size)
		checkUnscanned(t, "as long as it would be", text, c.width, c.height, c.color, c.depth, false, impl.ScanSize)
		checkUnscanned(t, "as long as it would be", text, c.width, c.height, c.color, c.depth, true, impl.ScanSize)
	}
}

func TestScanReadRefusesSizes(t *testing.T) {
	eachRaster(func(r impl.Raster) {
		for _, lace := range bothLaces() {
			told := scanOf(t, r, lace, impl.WayBest)
			for _, text := range []string{"", told[:1], told[:len(told)-1], told[1:], told + "\x00", told + "\xff", "\x00" + told, told + told, told[:len(told)/2]} {
				if len(text) != len(told) {
					checkUnscanned(t, "another size", text, r.Width, r.Height, r.Color, r.Depth, lace, impl.ScanSize)
				}
			}
			if other := scanOf(t, r, !lace, impl.WayBest); len(other) != len(told) {
				checkUnscanned(t, "with passes for without", other, r.Width, r.Height, r.Color, r.Depth, lace, impl.ScanSize)
			}
			checkScanned(t, "right", told, r, lace)
		}
	})
}

// Each row's kind in turn, of the first pass and of the later ones: 4 is right, above it none is.
func TestScanReadRefusesKinds(t *testing.T) {
	r := rand.New(rand.NewSource(184))
	eachKind(func(row colorRow, depth int) {
		for _, size := range [][2]int{{1, 1}, {1, 3}, {3, 1}, {3, 5}, {9, 9}, {impl.MaxSide, impl.MaxSide}} {
			raster := rasterOf(r, size[0], size[1], row, depth)
			for _, lace := range bothLaces() {
				told := scanOf(t, raster, lace, r.Intn(impl.WayBest+1))
				for _, at := range kindPlaces(raster, lace) {
					for _, kind := range []byte{5, 6, 7, 8, 127, 128, 132, 255} {
						text := []byte(told)
						text[at] = kind
						name := fmt.Sprintf("the kind %d at %d", kind, at)
						checkUnscanned(t, name, string(text), size[0], size[1], row.color, depth, lace, impl.ScanFilter)
						checkUnscanned(t, name+", and one byte more", string(text)+"\x00", size[0], size[1], row.color, depth, lace, impl.ScanSize)
						checkUnscanned(t, name+", and one byte less", string(text[:len(text)-1]), size[0], size[1], row.color, depth, lace, impl.ScanSize)
					}
					text := []byte(told)
					text[at] = 4
					if got, code := impl.ScanRead(string(text), size[0], size[1], row.color, depth, lace); code != 0 || !impl.RasterOk(got) {
						t.Errorf("the kind 4 at %d of %q: %v, code %d", at, told, got, code)
					}
				}
			}
		}
	})
}

// A kind of 5 or more is one only at the beginning of a row; each byte may stand elsewhere.
func TestScanReadEachByte(t *testing.T) {
	for n := range 256 {
		b := string([]byte{byte(n)})
		checkScanned(t, "bytes", "\x00"+b+b+"\x00"+b+b, impl.Raster{Width: 2, Height: 2, Depth: 8, Samples: []int{n, n, n, n}}, false)
		want := impl.ScanFilter
		if n <= lastKind {
			want = 0
		}
		if _, code := impl.ScanRead(b+"\x01\x02", 2, 1, 0, 8, false); code != want {
			t.Errorf("the kind %d: code %d", n, code)
		}
	}
}

// Rows of one text by any kinds, as no way tells them.
func TestScanReadMixedKinds(t *testing.T) {
	r := rand.New(rand.NewSource(185))
	eachKind(func(row colorRow, depth int) {
		eachSize(func(width, height int) {
			if (width*5+height)%4 == 0 {
				raster := rasterOf(r, width, height, row, depth)
				for _, lace := range bothLaces() {
					checkScanned(t, "mixed kinds", mixedScan(r, raster, lace), raster, lace)
				}
			}
		})
	})
}

// filledRows are the packed rows with the bits that are left over set as those of fill are.
func filledRows(part impl.Raster, fill func() byte) []string {
	rows := packedRows(part)
	left := (8 - part.Width*part.Depth%8) % 8
	for y := range rows {
		last := len(rows[y]) - 1
		rows[y] = turnedAt(rows[y], last, fill()&(1<<left-1))
	}
	return rows
}

// Bits that are left over may be anything: the raster is the same, and the row stands above the next one with them.
func TestScanReadBitsLeftOver(t *testing.T) {
	r := rand.New(rand.NewSource(186))
	ones := func() byte { return 255 }
	some := func() byte { return byte(r.Intn(256)) }
	met := 0
	for _, color := range []int{0, 3} {
		for _, depth := range []int{1, 2, 4} {
			eachSize(func(width, height int) {
				raster := rasterOf(r, width, height, colorOf(color), depth)
				for _, lace := range bothLaces() {
					for kind := range lastKind + 2 {
						pick := func(int, string, string) int { return kind }
						if kind > lastKind {
							pick = func(int, string, string) int { return r.Intn(lastKind + 1) }
						}
						for _, fill := range []func() byte{ones, some} {
							var told strings.Builder
							for _, part := range slowParts(raster, lace) {
								told.WriteString(filteredRows(filledRows(part, fill), 1, pick))
							}
							checkScanned(t, "bits left over", told.String(), raster, lace)
							met++
						}
					}
				}
			})
		}
	}
	if met != 2*3*24*24*2*6*2 {
		t.Errorf("%d texts", met)
	}
}

// In figures: the same row with its left bits 0 and 1, and a row below it that hangs on them.
func TestScanReadBitsLeftOverInFigures(t *testing.T) {
	for _, c := range []struct {
		name, text           string
		width, height, depth int
		want                 []int
	}{
		{"0", "\x00\xc4", 3, 1, 2, []int{3, 0, 1}},
		{"1", "\x00\xc7", 3, 1, 2, []int{3, 0, 1}},
		{"of one bit", "\x00\xff", 1, 1, 1, []int{1}},
		{"of four bits", "\x00\x9f", 1, 1, 4, []int{9}},
		{"above, 0", "\x00\x80\x03\x00", 1, 2, 4, []int{8, 4}},
		{"above, 1", "\x00\x8f\x02\x01", 1, 2, 4, []int{8, 9}},
		{"above, 0, with the same byte below", "\x00\x80\x02\x01", 1, 2, 4, []int{8, 8}},
		{"the half of what is above, 1", "\x00\x1f\x03\x01", 1, 2, 4, []int{1, 1}},
		{"the half of what is above, 0", "\x00\x10\x03\x01", 1, 2, 4, []int{1, 0}},
		{"the half of what is above, 0x1f", "\x00\x1f\x03\xf1", 1, 2, 4, []int{1, 0}},
		{"handed on by two rows", "\x00\x0f\x02\x00\x02\x01", 1, 3, 4, []int{0, 0, 1}},
	} {
		checkScanned(t, c.name, c.text, impl.Raster{Width: c.width, Height: c.height, Depth: c.depth, Samples: c.want}, false)
	}
}

func TestScansLeaveArgumentsAlone(t *testing.T) {
	eachRaster(func(r impl.Raster) {
		want := copyOfRaster(r)
		samples, room := spared(r.Samples)
		r.Samples = samples
		for _, lace := range bothLaces() {
			for way := -1; way <= impl.WayBest+1; way++ {
				impl.ScanOf(r, lace, way)
			}
			told := scanOf(t, r, lace, impl.WayBest)
			first, _ := impl.ScanRead(told, r.Width, r.Height, r.Color, r.Depth, lace)
			second, _ := impl.ScanRead(told, r.Width, r.Height, r.Color, r.Depth, lace)
			all := first.Samples[:cap(first.Samples)]
			for i := range all {
				all[i] = -9
			}
			if !sameRaster(r, want) || !slices.Equal(room[len(samples):], []int{77, 77, 77}) {
				t.Fatalf("a raster was changed: %v, %v", r, room)
			}
			if !sameRaster(second, want) {
				t.Fatalf("a second answer was changed: %v", second)
			}
			checkScanned(t, "the text as it was", told, want, lace)
			// What was told stays as it is, whatever becomes of the raster.
			kept := strings.Clone(told)
			for i := range samples {
				samples[i] = 0
			}
			if told != kept {
				t.Fatalf("a text was changed: %q, not %q", told, kept)
			}
			copy(samples, want.Samples)
		}
	})
}

// What was refused or told ahead of a call changes nothing.
func TestScansKeepNothing(t *testing.T) {
	r := rand.New(rand.NewSource(187))
	raster := rasterOf(r, 11, 7, colorOf(3), 4)
	first := scanOf(t, raster, true, impl.WayBest)
	impl.ScanOf(raster, true, 6)
	impl.ScanOf(impl.Raster{Width: 25}, false, 0)
	impl.ScanBytes(0, 25, -1, 3, true)
	impl.ScanRead(first, 11, 7, 3, 4, false)
	impl.ScanRead("\x05"+first[1:], 11, 7, 3, 4, true)
	checkP15(t, raster)
	if second := scanOf(t, raster, true, impl.WayBest); second != first {
		t.Errorf("a second time %q, the first time %q", second, first)
	}
}

// chunkText is a piece of a picture file.
func chunkText(name, data string) string {
	size := binary.BigEndian.AppendUint32(nil, uint32(len(data)))
	sum := binary.BigEndian.AppendUint32(nil, crc32.ChecksumIEEE([]byte(name+data)))
	return string(size) + name + data + string(sum)
}

// pictureOf lays scan lines into a picture file for another reader.
func pictureOf(r impl.Raster, lace bool, lines string) string {
	head := binary.BigEndian.AppendUint32(nil, uint32(r.Width))
	head = binary.BigEndian.AppendUint32(head, uint32(r.Height))
	head = append(head, byte(r.Depth), byte(r.Color), 0, 0, 0)
	if lace {
		head[12] = 1
	}
	var packed bytes.Buffer
	w := zlib.NewWriter(&packed)
	w.Write([]byte(lines))
	w.Close()
	text := "\x89PNG\r\n\x1a\n" + chunkText("IHDR", string(head))
	if r.Color == impl.ColorTable {
		text += chunkText("PLTE", bytesInTurn(0, 1, 3<<r.Depth))
	}
	return text + chunkText("IDAT", packed.String()) + chunkText("IEND", "")
}

// samplesAt are those of one pixel, as another reader has them.
func samplesAt(picture image.Image, r impl.Raster, x, y int) []int {
	switch r.Color {
	case impl.ColorTable:
		return []int{int(picture.(*image.Paletted).ColorIndexAt(x, y))}
	case impl.ColorGray:
		return []int{int(color.Gray16Model.Convert(picture.At(x, y)).(color.Gray16).Y) >> (16 - r.Depth)}
	}
	c := color.NRGBA64Model.Convert(picture.At(x, y)).(color.NRGBA64)
	if n, ok := picture.At(x, y).(color.NRGBA); ok {
		c = color.NRGBA64{R: uint16(n.R) << 8, G: uint16(n.G) << 8, B: uint16(n.B) << 8, A: uint16(n.A) << 8}
	}
	down := 16 - r.Depth
	switch r.Color {
	case impl.ColorGrayClear:
		return []int{int(c.R) >> down, int(c.A) >> down}
	case impl.ColorFull:
		return []int{int(c.R) >> down, int(c.G) >> down, int(c.B) >> down}
	}
	return []int{int(c.R) >> down, int(c.G) >> down, int(c.B) >> down, int(c.A) >> down}
}

func TestScanOfForAnotherReader(t *testing.T) {
	r := rand.New(rand.NewSource(188))
	eachKind(func(row colorRow, depth int) {
		for _, size := range [][2]int{{1, 1}, {2, 1}, {1, 5}, {5, 3}, {8, 8}, {9, 17}, {23, 10}, {impl.MaxSide, impl.MaxSide}} {
			raster := rasterOf(r, size[0], size[1], row, depth)
			for _, lace := range bothLaces() {
				for way := 0; way <= impl.WayBest; way++ {
					picture, err := png.Decode(strings.NewReader(pictureOf(raster, lace, scanOf(t, raster, lace, way))))
					if err != nil {
						t.Fatalf("%v, color %d, depth %d, lace %v, way %d: %v", size, row.color, depth, lace, way, err)
					}
					var samples []int
					for i := range size[0] * size[1] {
						samples = append(samples, samplesAt(picture, raster, i%size[0], i/size[0])...)
					}
					if !slices.Equal(samples, raster.Samples) {
						t.Fatalf("%v, color %d, depth %d, lace %v, way %d: another reader has %v, not %v", size, row.color, depth, lace, way, samples, raster.Samples)
					}
				}
			}
		}
	})
}
