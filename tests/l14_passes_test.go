package tests

import (
	"fmt"
	"math"
	"math/rand"
	"reflect"
	"slices"
	"testing"

	"loop.example/g00099/impl"
)

const sevenPasses = 7

// passMap tells of each place of eight columns and eight rows its pass, as it is drawn; farther on it goes round.
const passMap = "" +
	"05351535" +
	"66666666" +
	"45454545" +
	"66666666" +
	"25352535" +
	"66666666" +
	"45454545" +
	"66666666"

func passAt(x, y int) int { return int(passMap[y%8*8+x%8] - '0') }

// slowPassSize counts places.
func slowPassSize(width, height, pass int) (int, int) {
	columns, rows := map[int]bool{}, map[int]bool{}
	for y := range height {
		for x := range width {
			if passAt(x, y) == pass {
				columns[x], rows[y] = true, true
			}
		}
	}
	return len(columns), len(rows)
}

// slowPasses goes through the raster pixel by pixel, and lays each one behind those of its pass.
func slowPasses(r impl.Raster) []impl.Raster {
	list := make([]impl.Raster, sevenPasses)
	for pass := range list {
		list[pass].Color, list[pass].Depth = r.Color, r.Depth
		list[pass].Width, list[pass].Height = slowPassSize(r.Width, r.Height, pass)
	}
	for i := range r.Width * r.Height {
		channels := colorOf(r.Color).channels
		pass := &list[passAt(i%r.Width, i/r.Width)]
		pass.Samples = append(pass.Samples, r.Samples[i*channels:(i+1)*channels]...)
	}
	return list
}

func sameRaster(a, b impl.Raster) bool {
	return a.Width == b.Width && a.Height == b.Height && a.Color == b.Color && a.Depth == b.Depth && slices.Equal(a.Samples, b.Samples)
}

func copyOfRaster(r impl.Raster) impl.Raster {
	r.Samples = slices.Clone(r.Samples)
	return r
}

func copyOfPasses(list []impl.Raster) []impl.Raster {
	other := make([]impl.Raster, len(list))
	for i, r := range list {
		other[i] = copyOfRaster(r)
	}
	return other
}

func passesOf(t *testing.T, r impl.Raster) []impl.Raster {
	t.Helper()
	list, ok := impl.PassesOf(r)
	if !ok || len(list) != sevenPasses {
		t.Fatalf("%d by %d, color %d, depth %d: %d passes, %v", r.Width, r.Height, r.Color, r.Depth, len(list), ok)
	}
	return list
}

// eachSize tells every size that a raster may have.
func eachSize(tell func(width, height int)) {
	for width := 1; width <= impl.MaxSide; width++ {
		for height := 1; height <= impl.MaxSide; height++ {
			tell(width, height)
		}
	}
}

// eachKind tells every color with every depth that it may have.
func eachKind(tell func(row colorRow, depth int)) {
	for _, row := range colorRows() {
		for _, depth := range row.depths {
			tell(row, depth)
		}
	}
}

// checkP14 wants the raster again from its passes, and of its passes those that are counted out.
func checkP14(t *testing.T, r impl.Raster) {
	t.Helper()
	list := passesOf(t, r)
	if want := slowPasses(r); !slices.EqualFunc(list, want, sameRaster) {
		t.Fatalf("%v: the passes %v, not %v", r, list, want)
	}
	if back, ok := impl.FromPasses(r.Width, r.Height, list); !ok || !sameRaster(back, r) {
		t.Fatalf("%v: back comes %v, %v", r, back, ok)
	}
}

func TestP14RastersComeBack(t *testing.T) {
	r := rand.New(rand.NewSource(171))
	told := 0
	eachKind(func(row colorRow, depth int) {
		eachSize(func(width, height int) {
			told++
			raster := rasterOf(r, width, height, row, depth)
			checkP14(t, raster)
			if size := len(raster.Samples); (width+height)%5 == 0 {
				raster.Samples = make([]int, size)
				checkP14(t, raster)
				raster.Samples = slices.Repeat([]int{1<<depth - 1}, size)
				checkP14(t, raster)
			}
		})
	})
	if told != 15*24*24 {
		t.Errorf("%d rasters", told)
	}
}

// Samples that are each their own place: in all passes together each place comes once.
func TestP14EachSampleInOnePass(t *testing.T) {
	for _, row := range colorRows() {
		if !slices.Contains(row.depths, 16) {
			continue
		}
		eachSize(func(width, height int) {
			raster := impl.Raster{Width: width, Height: height, Color: row.color, Depth: 16}
			raster.Samples = samplesInTurn(0, width*height*row.channels, 16)
			checkP14(t, raster)
			var all []int
			for _, pass := range passesOf(t, raster) {
				if !slices.IsSorted(pass.Samples) {
					t.Fatalf("%d by %d, color %d: a pass %v", width, height, row.color, pass)
				}
				all = append(all, pass.Samples...)
			}
			slices.Sort(all)
			if !slices.Equal(all, raster.Samples) {
				t.Fatalf("%d by %d, color %d: of all passes together %v", width, height, row.color, all)
			}
		})
	}
}

// One pixel among others, of each color and depth: just one pass has it, and has it once.
func TestP14OnePixelInOnePass(t *testing.T) {
	eachKind(func(row colorRow, depth int) {
		for _, size := range [][2]int{{1, 1}, {1, 9}, {9, 1}, {2, 3}, {5, 4}, {8, 8}, {9, 10}, {impl.MaxSide, 3}} {
			width, height := size[0], size[1]
			for i := range width * height {
				raster := impl.Raster{Width: width, Height: height, Color: row.color, Depth: depth, Samples: make([]int, width*height*row.channels)}
				pixel := slices.Repeat([]int{1<<depth - 1}, row.channels)
				copy(raster.Samples[i*row.channels:], pixel)
				checkP14(t, raster)
				for n, pass := range passesOf(t, raster) {
					met := 0
					for piece := range slices.Chunk(pass.Samples, row.channels) {
						if slices.Equal(piece, pixel) {
							met++
						}
					}
					want := 0
					if n == passAt(i%width, i/width) {
						want = 1
					}
					if met != want {
						t.Fatalf("%d by %d, color %d, depth %d: the pixel %d is in the pass %d %d times", width, height, row.color, depth, i, n, met)
					}
				}
			}
		}
	})
}

// Passes of the sizes that they must have, with any samples, go the other way round, too.
func TestP14PassesComeBack(t *testing.T) {
	r := rand.New(rand.NewSource(172))
	eachKind(func(row colorRow, depth int) {
		eachSize(func(width, height int) {
			list := make([]impl.Raster, sevenPasses)
			for pass := range list {
				columns, rows := slowPassSize(width, height, pass)
				list[pass] = rasterOf(r, columns, rows, row, depth)
			}
			raster, ok := impl.FromPasses(width, height, list)
			if !ok || !impl.RasterOk(raster) || !slices.EqualFunc(slowPasses(raster), list, sameRaster) {
				t.Fatalf("%d by %d, color %d, depth %d: of %v comes %v, %v", width, height, row.color, depth, list, raster, ok)
			}
			if back := passesOf(t, raster); !slices.EqualFunc(back, list, sameRaster) {
				t.Fatalf("%d by %d, color %d, depth %d: of %v comes back %v", width, height, row.color, depth, list, back)
			}
		})
	})
}

func TestPassStep(t *testing.T) {
	steps := [][4]int{{0, 0, 8, 8}, {4, 0, 8, 8}, {0, 4, 4, 8}, {2, 0, 4, 4}, {0, 2, 2, 4}, {1, 0, 2, 2}, {0, 1, 1, 2}}
	numbers := append(oddNumbers(), wrongPasses()...)
	for n := -300; n <= 300; n++ {
		numbers = append(numbers, n)
	}
	for _, pass := range numbers {
		var want [4]int
		if pass >= 0 && pass <= 6 {
			want = steps[pass]
		}
		column, row, across, down := impl.PassStep(pass)
		if got := [4]int{column, row, across, down}; got != want {
			t.Errorf("pass %d: %v, not %v", pass, got, want)
		}
	}
}

// The steps lead to just the places of the map.
func TestPassStepPlaces(t *testing.T) {
	for pass := range sevenPasses {
		column, row, across, down := impl.PassStep(pass)
		for y := range impl.MaxSide {
			for x := range impl.MaxSide {
				met := x >= column && y >= row && (x-column)%across == 0 && (y-row)%down == 0
				if met != (passAt(x, y) == pass) {
					t.Errorf("pass %d, column %d, row %d: %v", pass, x, y, met)
				}
			}
		}
	}
}

// wrongPasses has those beside the edges, and such as are right in their lower bits alone.
func wrongPasses() []int {
	return []int{-1, -2, -6, -7, 7, 8, 9, 14, 15, 64, 255, 256, 262, 1 << 32, 1<<32 + 3, -1 << 32, -1<<32 + 6, 1 << 62, math.MaxInt, math.MaxInt - 1, math.MinInt, math.MinInt + 1}
}

func wrongSides() []int {
	return []int{0, -1, -2, -24, -25, impl.MaxSide + 1, impl.MaxSide + 2, 32, 48, 256, 257, 1 << 32, 1<<32 + 8, -1 << 32, -1<<32 + 8, 1 << 62, math.MaxInt, math.MaxInt - 1, math.MinInt, math.MinInt + 1}
}

func checkPassSize(t *testing.T, width, height, pass, wantColumns, wantRows int) {
	t.Helper()
	if columns, rows := impl.PassSize(width, height, pass); columns != wantColumns || rows != wantRows {
		t.Errorf("%d by %d, pass %d: %d and %d, not %d and %d", width, height, pass, columns, rows, wantColumns, wantRows)
	}
}

func TestPassSize(t *testing.T) {
	for _, c := range []struct {
		width, height int
		want          [sevenPasses][2]int
	}{
		{1, 1, [sevenPasses][2]int{{1, 1}}},
		{2, 1, [sevenPasses][2]int{{1, 1}, {}, {}, {}, {}, {1, 1}, {}}},
		{1, 2, [sevenPasses][2]int{{1, 1}, {}, {}, {}, {}, {}, {1, 1}}},
		{2, 2, [sevenPasses][2]int{{1, 1}, {}, {}, {}, {}, {1, 1}, {2, 1}}},
		{3, 3, [sevenPasses][2]int{{1, 1}, {}, {}, {1, 1}, {2, 1}, {1, 2}, {3, 1}}},
		{4, 4, [sevenPasses][2]int{{1, 1}, {}, {}, {1, 1}, {2, 1}, {2, 2}, {4, 2}}},
		{5, 5, [sevenPasses][2]int{{1, 1}, {1, 1}, {2, 1}, {1, 2}, {3, 1}, {2, 3}, {5, 2}}},
		{5, 1, [sevenPasses][2]int{{1, 1}, {1, 1}, {}, {1, 1}, {}, {2, 1}, {}}},
		{1, 5, [sevenPasses][2]int{{1, 1}, {}, {1, 1}, {}, {1, 1}, {}, {1, 2}}},
		{8, 8, [sevenPasses][2]int{{1, 1}, {1, 1}, {2, 1}, {2, 2}, {4, 2}, {4, 4}, {8, 4}}},
		{9, 9, [sevenPasses][2]int{{2, 2}, {1, 2}, {3, 1}, {2, 3}, {5, 2}, {4, 5}, {9, 4}}},
		{24, 1, [sevenPasses][2]int{{3, 1}, {3, 1}, {}, {6, 1}, {}, {12, 1}, {}}},
		{1, 24, [sevenPasses][2]int{{1, 3}, {}, {1, 3}, {}, {1, 6}, {}, {1, 12}}},
		{24, 24, [sevenPasses][2]int{{3, 3}, {3, 3}, {6, 3}, {6, 6}, {12, 6}, {12, 12}, {24, 12}}},
	} {
		for pass, want := range c.want {
			checkPassSize(t, c.width, c.height, pass, want[0], want[1])
		}
	}
}

// Of every size, against a count of places. Passes without a column and passes without a row are both met.
func TestPassSizeOfEachSize(t *testing.T) {
	met := map[[2]bool]int{}
	eachSize(func(width, height int) {
		pixels := 0
		for pass := range sevenPasses {
			columns, rows := slowPassSize(width, height, pass)
			checkPassSize(t, width, height, pass, columns, rows)
			pixels += columns * rows
			column, row, _, _ := impl.PassStep(pass)
			lacks := [2]bool{column >= width, row >= height}
			met[lacks]++
			if (lacks != [2]bool{}) != (columns == 0 && rows == 0) {
				t.Errorf("%d by %d, pass %d: %d and %d", width, height, pass, columns, rows)
			}
		}
		if pixels != width*height {
			t.Errorf("%d by %d: %d pixels", width, height, pixels)
		}
	})
	// A pass begins at the first column or at the first row, and a raster has both: none lacks both.
	if met[[2]bool{true, false}] == 0 || met[[2]bool{false, true}] == 0 || met[[2]bool{true, true}] != 0 {
		t.Errorf("without a column, without a row: %v", met)
	}
}

func TestPassSizeRefuses(t *testing.T) {
	for _, pass := range wrongPasses() {
		eachSize(func(width, height int) { checkPassSize(t, width, height, pass, 0, 0) })
	}
	for _, wrong := range wrongSides() {
		for pass := range sevenPasses {
			for side := 1; side <= impl.MaxSide; side++ {
				checkPassSize(t, wrong, side, pass, 0, 0)
				checkPassSize(t, side, wrong, pass, 0, 0)
			}
			for _, other := range wrongSides() {
				checkPassSize(t, wrong, other, pass, 0, 0)
			}
		}
		for _, pass := range wrongPasses() {
			checkPassSize(t, wrong, wrong, pass, 0, 0)
			checkPassSize(t, wrong, 1, pass, 0, 0)
		}
	}
}

// toldPass is one in figures, of whatever color and depth.
type toldPass struct {
	width, height int
	samples       []int
}

func TestPassesOf(t *testing.T) {
	none := toldPass{}
	for _, c := range []struct {
		name   string
		raster impl.Raster
		want   [sevenPasses]toldPass
	}{
		{"one pixel", impl.Raster{Width: 1, Height: 1, Depth: 1, Samples: []int{1}},
			[sevenPasses]toldPass{{1, 1, []int{1}}, none, none, none, none, none, none}},
		{"one pixel of four channels", impl.Raster{Width: 1, Height: 1, Color: 6, Depth: 8, Samples: []int{9, 8, 7, 6}},
			[sevenPasses]toldPass{{1, 1, []int{9, 8, 7, 6}}, none, none, none, none, none, none}},
		{"one row", impl.Raster{Width: 9, Height: 1, Color: 3, Depth: 4, Samples: []int{0, 1, 2, 3, 4, 5, 6, 7, 8}},
			[sevenPasses]toldPass{{2, 1, []int{0, 8}}, {1, 1, []int{4}}, none, {2, 1, []int{2, 6}}, none, {4, 1, []int{1, 3, 5, 7}}, none}},
		{"one column", impl.Raster{Width: 1, Height: 9, Depth: 16, Samples: []int{0, 1, 2, 3, 4, 5, 6, 7, 8}},
			[sevenPasses]toldPass{{1, 2, []int{0, 8}}, none, {1, 1, []int{4}}, none, {1, 2, []int{2, 6}}, none, {1, 4, []int{1, 3, 5, 7}}}},
		{"two rows of two channels", impl.Raster{Width: 3, Height: 2, Color: 4, Depth: 8, Samples: []int{10, 11, 20, 21, 30, 31, 40, 41, 50, 51, 60, 61}},
			[sevenPasses]toldPass{{1, 1, []int{10, 11}}, none, none, {1, 1, []int{30, 31}}, none, {1, 1, []int{20, 21}}, {3, 1, []int{40, 41, 50, 51, 60, 61}}}},
		{"three rows of three channels", impl.Raster{Width: 2, Height: 3, Color: 2, Depth: 16, Samples: []int{1, 2, 3, 4, 5, 6, 7, 8, 9, 10, 11, 12, 13, 14, 15, 16, 17, 18}},
			[sevenPasses]toldPass{{1, 1, []int{1, 2, 3}}, none, none, none, {1, 1, []int{13, 14, 15}}, {1, 2, []int{4, 5, 6, 16, 17, 18}}, {2, 1, []int{7, 8, 9, 10, 11, 12}}}},
		{"five by five", impl.Raster{Width: 5, Height: 5, Depth: 8, Samples: samplesInTurn(0, 25, 8)},
			[sevenPasses]toldPass{{1, 1, []int{0}}, {1, 1, []int{4}}, {2, 1, []int{20, 24}}, {1, 2, []int{2, 22}}, {3, 1, []int{10, 12, 14}},
				{2, 3, []int{1, 3, 11, 13, 21, 23}}, {5, 2, []int{5, 6, 7, 8, 9, 15, 16, 17, 18, 19}}}},
		{"eight by eight", impl.Raster{Width: 8, Height: 8, Depth: 8, Samples: samplesInTurn(0, 64, 8)},
			[sevenPasses]toldPass{{1, 1, []int{0}}, {1, 1, []int{4}}, {2, 1, []int{32, 36}}, {2, 2, []int{2, 6, 34, 38}}, {4, 2, []int{16, 18, 20, 22, 48, 50, 52, 54}},
				{4, 4, []int{1, 3, 5, 7, 17, 19, 21, 23, 33, 35, 37, 39, 49, 51, 53, 55}},
				{8, 4, []int{8, 9, 10, 11, 12, 13, 14, 15, 24, 25, 26, 27, 28, 29, 30, 31, 40, 41, 42, 43, 44, 45, 46, 47, 56, 57, 58, 59, 60, 61, 62, 63}}}},
	} {
		list := passesOf(t, c.raster)
		for n, want := range c.want {
			told := impl.Raster{Width: want.width, Height: want.height, Color: c.raster.Color, Depth: c.raster.Depth, Samples: want.samples}
			if !sameRaster(list[n], told) {
				t.Errorf("%s: the pass %d is %v, not %v", c.name, n, list[n], told)
			}
		}
		if back, ok := impl.FromPasses(c.raster.Width, c.raster.Height, list); !ok || !sameRaster(back, c.raster) {
			t.Errorf("%s: back comes %v, %v", c.name, back, ok)
		}
	}
}

// Passes without any pixel have the raster's color and depth, and nothing else; the others are right rasters.
func TestPassesWithoutPixels(t *testing.T) {
	r := rand.New(rand.NewSource(173))
	eachKind(func(row colorRow, depth int) {
		empty := 0
		eachSize(func(width, height int) {
			for n, pass := range passesOf(t, rasterOf(r, width, height, row, depth)) {
				if columns, _ := slowPassSize(width, height, n); columns > 0 {
					checkRaster(t, fmt.Sprintf("the pass %d of %d by %d", n, width, height), pass, true)
					continue
				}
				empty++
				if !sameRaster(pass, impl.Raster{Color: row.color, Depth: depth}) {
					t.Errorf("%d by %d, color %d, depth %d: the pass %d is %v", width, height, row.color, depth, n, pass)
				}
			}
		})
		if empty != 24*(4+4+2+2+1+1) {
			t.Errorf("color %d, depth %d: %d passes without any pixel", row.color, depth, empty)
		}
	})
}

func checkNoPasses(t *testing.T, name string, r impl.Raster) {
	t.Helper()
	if list, ok := impl.PassesOf(r); ok || len(list) != 0 {
		t.Errorf("%s: %d by %d, color %d, depth %d, %d samples: %v, %v", name, r.Width, r.Height, r.Color, r.Depth, len(r.Samples), list, ok)
	}
}

func TestPassesOfRefusesSidesColorsAndDepths(t *testing.T) {
	checkNoPasses(t, "the zero value", impl.Raster{})
	eachRaster(func(r impl.Raster) {
		channels := colorOf(r.Color).channels
		for _, side := range wrongSides() {
			for _, size := range []int{len(r.Samples), 0, channels * max(0, min(side, 48)) * r.Height, channels * max(0, min(side, 48)) * r.Width} {
				for _, sides := range [][2]int{{side, r.Height}, {r.Width, side}, {side, side}} {
					checkNoPasses(t, "a wrong side", impl.Raster{Width: sides[0], Height: sides[1], Color: r.Color, Depth: r.Depth, Samples: make([]int, size)})
				}
			}
		}
		for _, color := range append(oddNumbers(), 1, 5, 7, 8, 256, 1<<32+6) {
			if colorOf(color).channels == 0 {
				checkNoPasses(t, "no color", impl.Raster{Width: r.Width, Height: r.Height, Color: color, Depth: r.Depth, Samples: r.Samples})
				checkNoPasses(t, "no color, no samples", impl.Raster{Width: r.Width, Height: r.Height, Color: color, Depth: r.Depth})
			}
		}
		for _, depth := range append(noDepths(), fiveDepths()...) {
			if !slices.Contains(colorOf(r.Color).depths, depth) {
				checkNoPasses(t, "no depth", impl.Raster{Width: r.Width, Height: r.Height, Color: r.Color, Depth: depth, Samples: make([]int, len(r.Samples))})
			}
		}
		// A pass without any pixel is no right raster itself.
		checkNoPasses(t, "without any pixel", impl.Raster{Color: r.Color, Depth: r.Depth})
	})
}

func TestPassesOfRefusesSamples(t *testing.T) {
	eachRaster(func(r impl.Raster) {
		right := r.Samples
		for _, size := range []int{0, len(right) - 1, len(right) + 1, 2 * len(right)} {
			r.Samples = make([]int, size)
			checkNoPasses(t, "another number of samples", r)
		}
		r.Samples, _ = spared(right[:len(right)-1])
		checkNoPasses(t, "one fewer, with room behind", r)
		for at := range right {
			for _, wrong := range []int{-1, 1 << r.Depth} {
				r.Samples = slices.Clone(right)
				r.Samples[at] = wrong
				checkNoPasses(t, fmt.Sprintf("%d at %d", wrong, at), r)
			}
		}
		for _, wrong := range []int{math.MinInt, -1 << 32, 1 << 16, 1 << 32, 1<<32 + 1, math.MaxInt} {
			r.Samples = slices.Clone(right)
			r.Samples[len(right)-1] = wrong
			checkNoPasses(t, fmt.Sprintf("%d at the end", wrong), r)
		}
		r.Samples = right
		checkP14(t, r)
	})
}

func checkNotFrom(t *testing.T, name string, width, height int, list []impl.Raster) {
	t.Helper()
	if r, ok := impl.FromPasses(width, height, list); ok || !sameRaster(r, impl.Raster{}) {
		t.Errorf("%s: %d by %d, of %d passes: %v, %v", name, width, height, len(list), r, ok)
	}
}

func TestFromPassesRefusesLists(t *testing.T) {
	eachRaster(func(r impl.Raster) {
		list := passesOf(t, r)
		checkNotFrom(t, "none", r.Width, r.Height, nil)
		checkNotFrom(t, "none", r.Width, r.Height, []impl.Raster{})
		for size := range sevenPasses {
			checkNotFrom(t, "fewer, with room behind", r.Width, r.Height, list[:size])
			checkNotFrom(t, "the first ones are not there", r.Width, r.Height, list[sevenPasses-size:])
		}
		for _, more := range []impl.Raster{{}, {Color: r.Color, Depth: r.Depth}, list[0], list[6], r} {
			checkNotFrom(t, "one more behind", r.Width, r.Height, append(slices.Clone(list), more))
			checkNotFrom(t, "one more ahead", r.Width, r.Height, append([]impl.Raster{more}, list...))
		}
		checkNotFrom(t, "twice", r.Width, r.Height, append(slices.Clone(list), list...))
		checkNotFrom(t, "seven zero values", r.Width, r.Height, make([]impl.Raster, sevenPasses))
		checkNotFrom(t, "seven times the raster", r.Width, r.Height, slices.Repeat([]impl.Raster{r}, sevenPasses))
		checkNotFrom(t, "seven without any pixel", r.Width, r.Height, slices.Repeat([]impl.Raster{{Color: r.Color, Depth: r.Depth}}, sevenPasses))
		if back, ok := impl.FromPasses(r.Width, r.Height, append(slices.Clone(list), r)[:sevenPasses]); !ok || !sameRaster(back, r) {
			t.Errorf("seven, with room behind: %v, %v", back, ok)
		}
	})
}

// eachSpoilt tells, for each pass, lists in which just it is another one.
func eachSpoilt(list []impl.Raster, tell func(name string, list []impl.Raster)) {
	for n := range list {
		for name, pass := range otherFields(copyOfRaster(list[n])) {
			other := copyOfPasses(list)
			other[n] = pass
			tell(fmt.Sprintf("pass %d: %s", n, name), other)
		}
	}
}

// otherFields are passes of which one field, or its number of samples, is another.
func otherFields(pass impl.Raster) map[string]impl.Raster {
	spoilt := map[string]impl.Raster{}
	for _, n := range append(oddNumbers(), pass.Width+1, pass.Width-1, pass.Height+1, pass.Height-1, 3, 4, 5, 6, 7, 8, 16, 24, 25) {
		for field := range 4 {
			other := pass
			at := []*int{&other.Width, &other.Height, &other.Color, &other.Depth}[field]
			if *at != n {
				*at = n
				spoilt[fmt.Sprintf("%d in place of the field %d", n, field)] = other
			}
		}
	}
	if pass.Width != pass.Height {
		other := pass
		other.Width, other.Height = pass.Height, pass.Width
		spoilt["turned"] = other
	}
	for _, by := range []int{1, 2, 3, 4, max(1, len(pass.Samples)), 24} {
		other := pass
		other.Samples = append(slices.Clone(pass.Samples), make([]int, by)...)
		spoilt[fmt.Sprintf("%d samples more", by)] = other
		if left := len(pass.Samples) - by; left >= 0 {
			other.Samples, _ = spared(pass.Samples[:left])
			spoilt[fmt.Sprintf("%d samples less", by)] = other
		}
	}
	return spoilt
}

func TestFromPassesRefusesFields(t *testing.T) {
	eachRaster(func(r impl.Raster) {
		told := 0
		eachSpoilt(passesOf(t, r), func(name string, list []impl.Raster) {
			told++
			checkNotFrom(t, name, r.Width, r.Height, list)
		})
		if told < 7*40 {
			t.Errorf("%d lists", told)
		}
	})
}

// A color with as many channels, and every depth that samples would fit in: in one pass wrong, in all of them right.
func TestFromPassesRefusesMixedKinds(t *testing.T) {
	eachKind(func(row colorRow, depth int) {
		eachKind(func(other colorRow, otherDepth int) {
			if other.channels != row.channels || other.color == row.color && otherDepth == depth {
				return
			}
			for _, size := range [][2]int{{1, 1}, {1, 5}, {5, 1}, {9, 9}} {
				width, height := size[0], size[1]
				blank := impl.Raster{Width: width, Height: height, Color: row.color, Depth: depth, Samples: make([]int, width*height*row.channels)}
				list := passesOf(t, blank)
				for n := range list {
					mixed := copyOfPasses(list)
					mixed[n].Color, mixed[n].Depth = other.color, otherDepth
					checkNotFrom(t, fmt.Sprintf("pass %d of another color or depth", n), width, height, mixed)
				}
				for n := range list {
					list[n].Color, list[n].Depth = other.color, otherDepth
				}
				blank.Color, blank.Depth = other.color, otherDepth
				if back, ok := impl.FromPasses(width, height, list); !ok || !sameRaster(back, blank) {
					t.Errorf("all of color %d, depth %d: %v, %v", other.color, otherDepth, back, ok)
				}
			}
		})
	})
}

// All passes have the same color and depth, but none that is right.
func TestFromPassesRefusesWrongKinds(t *testing.T) {
	for _, color := range append(oddNumbers(), 0, 2, 3, 4, 6, 1, 5, 7, 8, 256) {
		for _, depth := range append(noDepths(), fiveDepths()...) {
			if slices.Contains(colorOf(color).depths, depth) {
				continue
			}
			for _, size := range [][2]int{{1, 1}, {2, 2}, {8, 8}} {
				for channels := range 5 {
					list := make([]impl.Raster, sevenPasses)
					for n := range list {
						columns, rows := slowPassSize(size[0], size[1], n)
						list[n] = impl.Raster{Width: columns, Height: rows, Color: color, Depth: depth, Samples: make([]int, columns*rows*channels)}
					}
					checkNotFrom(t, fmt.Sprintf("color %d, depth %d, %d channels", color, depth, channels), size[0], size[1], list)
				}
			}
		}
	}
}

// Passes without any pixel that have something all the same.
func TestFromPassesRefusesEmptyWithSomething(t *testing.T) {
	r := rand.New(rand.NewSource(174))
	eachKind(func(row colorRow, depth int) {
		for _, size := range [][2]int{{1, 1}, {1, 4}, {4, 1}, {2, 2}, {1, impl.MaxSide}, {impl.MaxSide, 1}, {impl.MaxSide, 2}} {
			raster := rasterOf(r, size[0], size[1], row, depth)
			list, empty := passesOf(t, raster), 0
			for n := range list {
				if list[n].Width > 0 {
					continue
				}
				empty++
				for _, sides := range [][2]int{{0, 1}, {1, 0}, {1, 1}, {0, -1}, {-1, 0}, {-1, -1}, {0, 24}, {24, 0}, {0, math.MaxInt}, {math.MinInt, 0}, {0, 0}} {
					for samples := range 2*row.channels + 1 {
						if sides == [2]int{} && samples == 0 {
							continue
						}
						other := copyOfPasses(list)
						other[n].Width, other[n].Height, other[n].Samples = sides[0], sides[1], make([]int, samples)
						checkNotFrom(t, fmt.Sprintf("pass %d is %v with %d samples", n, sides, samples), size[0], size[1], other)
					}
				}
				other := copyOfPasses(list)
				other[n] = impl.Raster{}
				checkNotFrom(t, fmt.Sprintf("pass %d is the zero value", n), size[0], size[1], other)
			}
			if empty == 0 {
				t.Errorf("%v: no pass without any pixel", size)
			}
		}
	})
}

// A wrong sample at each place of each pass.
func TestFromPassesRefusesSamples(t *testing.T) {
	eachRaster(func(r impl.Raster) {
		list := passesOf(t, r)
		for n := range list {
			for at, right := range list[n].Samples {
				for _, wrong := range []int{-1, 1 << r.Depth} {
					list[n].Samples[at] = wrong
					checkNotFrom(t, fmt.Sprintf("%d at %d of the pass %d", wrong, at, n), r.Width, r.Height, list)
				}
				list[n].Samples[at] = right
			}
			if last := len(list[n].Samples) - 1; last >= 0 {
				right := list[n].Samples[last]
				for _, wrong := range []int{math.MinInt, -1 << 32, 1<<r.Depth + 1, 1 << 16, 1 << 32, 1<<32 + 1, math.MaxInt} {
					list[n].Samples[last] = wrong
					checkNotFrom(t, fmt.Sprintf("%d at the end of the pass %d", wrong, n), r.Width, r.Height, list)
				}
				list[n].Samples[last] = right
			}
		}
		if back, ok := impl.FromPasses(r.Width, r.Height, list); !ok || !sameRaster(back, r) {
			t.Errorf("right again: %v, %v", back, ok)
		}
	})
}

// The passes of each size belong to no other size.
func TestFromPassesRefusesOtherSides(t *testing.T) {
	r := rand.New(rand.NewSource(175))
	eachSize(func(width, height int) {
		raster := rasterOf(r, width, height, colorOf(0), 8)
		list := passesOf(t, raster)
		for otherWidth := -1; otherWidth <= impl.MaxSide+2; otherWidth++ {
			for otherHeight := -1; otherHeight <= impl.MaxSide+2; otherHeight++ {
				if otherWidth != width || otherHeight != height {
					checkNotFrom(t, fmt.Sprintf("passes of %d by %d", width, height), otherWidth, otherHeight, list)
				}
			}
		}
		for _, wrong := range wrongSides() {
			checkNotFrom(t, "a wrong width", wrong, height, list)
			checkNotFrom(t, "a wrong height", width, wrong, list)
			checkNotFrom(t, "wrong sides", wrong, wrong, list)
		}
	})
}

// Sides beyond the limit, with passes that are told for them as they are for others.
func TestFromPassesRefusesGreatSides(t *testing.T) {
	for _, size := range [][2]int{{25, 1}, {1, 25}, {25, 25}, {32, 8}, {0, 0}, {0, 1}, {1, 0}} {
		eachKind(func(row colorRow, depth int) {
			list := slowPasses(impl.Raster{Width: size[0], Height: size[1], Color: row.color, Depth: depth, Samples: make([]int, size[0]*size[1]*row.channels)})
			checkNotFrom(t, "sides that are none", size[0], size[1], list)
		})
	}
}

func TestPassesLeaveArgumentsAlone(t *testing.T) {
	eachRaster(func(r impl.Raster) {
		want := copyOfRaster(r)
		samples, room := spared(r.Samples)
		r.Samples = samples
		list := passesOf(t, r)
		second := passesOf(t, r)
		kept := copyOfPasses(list)
		for n := range list {
			for i := range list[n].Samples {
				list[n].Samples[i] = -9
			}
			list[n].Samples = append(list[n].Samples, -8)
			list[n].Width = -7
		}
		if !sameRaster(r, want) || !slices.Equal(room[len(samples):], []int{77, 77, 77}) {
			t.Fatalf("a raster was changed: %v, %v", r, room)
		}
		if !slices.EqualFunc(second, kept, sameRaster) {
			t.Fatalf("a second answer was changed: %v, not %v", second, kept)
		}
	})
}

// No two passes of one answer share memory, not even behind their samples.
func TestPassesShareNothing(t *testing.T) {
	eachRaster(func(r impl.Raster) {
		list := passesOf(t, r)
		for n := range list {
			kept := copyOfPasses(list)
			all := list[n].Samples[:cap(list[n].Samples)]
			for i := range all {
				all[i] = -9
			}
			for other := range list {
				if other != n && !sameRaster(list[other], kept[other]) {
					t.Fatalf("%d by %d: the pass %d was changed with the pass %d", r.Width, r.Height, other, n)
				}
			}
			copy(list[n].Samples, kept[n].Samples)
		}
	})
}

func TestFromPassesLeavesArgumentsAlone(t *testing.T) {
	eachRaster(func(r impl.Raster) {
		list := passesOf(t, r)
		rooms := make([][]int, len(list))
		for n := range list {
			list[n].Samples, rooms[n] = spared(list[n].Samples)
		}
		kept, keptRooms := copyOfPasses(list), make([][]int, len(rooms))
		for n := range rooms {
			keptRooms[n] = slices.Clone(rooms[n])
		}
		back, ok := impl.FromPasses(r.Width, r.Height, list)
		second, _ := impl.FromPasses(r.Width, r.Height, list)
		if !ok || !sameRaster(back, r) {
			t.Fatalf("%v: back comes %v, %v", r, back, ok)
		}
		for i := range back.Samples {
			back.Samples[i] = -9
		}
		if !slices.EqualFunc(list, kept, sameRaster) || !reflect.DeepEqual(rooms, keptRooms) {
			t.Fatalf("passes were changed: %v, not %v", list, kept)
		}
		if !sameRaster(second, r) {
			t.Fatalf("a second answer was changed: %v, not %v", second, r)
		}
		// What is refused at its last pass leaves the passes as they are, too.
		list[6].Color = -1
		kept[6].Color = -1
		checkNotFrom(t, "the last one is wrong", r.Width, r.Height, list)
		if !slices.EqualFunc(list, kept, sameRaster) || !reflect.DeepEqual(rooms, keptRooms) {
			t.Fatalf("passes were changed: %v, not %v", list, kept)
		}
	})
}

// What was refused or told ahead of a call changes nothing.
func TestPassesKeepNothing(t *testing.T) {
	r := rand.New(rand.NewSource(176))
	raster := rasterOf(r, 11, 7, colorOf(6), 8)
	first := passesOf(t, raster)
	impl.PassStep(7)
	impl.PassSize(0, 25, -1)
	impl.PassesOf(impl.Raster{Width: 25})
	impl.FromPasses(7, 11, first)
	impl.FromPasses(11, 7, first[:6])
	checkP14(t, raster)
	if second := passesOf(t, raster); !slices.EqualFunc(first, second, sameRaster) {
		t.Errorf("a second time %v, the first time %v", second, first)
	}
}
