package tests

import (
	"encoding/binary"
	"encoding/hex"
	"fmt"
	"image"
	"image/color"
	"image/png"
	"math"
	"math/big"
	"math/rand"
	"slices"
	"strings"
	"testing"

	"loop.example/g00099/impl"
)

// slowHeadText wants a right head.
func slowHeadText(h impl.Head) string {
	text := binary.BigEndian.AppendUint32(nil, uint32(h.Width))
	text = binary.BigEndian.AppendUint32(text, uint32(h.Height))
	text = append(text, byte(h.Depth), byte(h.Color), 0, 0, 0)
	if h.Lace {
		text[12] = 1
	}
	return string(text)
}

// eachHead tells every right head there is.
func eachHead(tell func(h impl.Head)) {
	eachKind(func(row colorRow, depth int) {
		eachSize(func(width, height int) {
			for _, lace := range bothLaces() {
				tell(impl.Head{Width: width, Height: height, Depth: depth, Color: row.color, Lace: lace})
			}
		})
	})
}

// headsByText has every right head under its text, so that what is in no entry is no head's.
func headsByText() map[string]impl.Head {
	heads := map[string]impl.Head{}
	eachHead(func(h impl.Head) { heads[slowHeadText(h)] = h })
	return heads
}

// someHeads have sides at both ends, each kind, and are laced or not.
func someHeads() []impl.Head {
	var list []impl.Head
	eachKind(func(row colorRow, depth int) {
		for _, size := range [][2]int{{1, 1}, {1, impl.MaxSide}, {impl.MaxSide, 1}, {impl.MaxSide, impl.MaxSide}, {7, 16}} {
			for _, lace := range bothLaces() {
				list = append(list, impl.Head{Width: size[0], Height: size[1], Depth: depth, Color: row.color, Lace: lace})
			}
		}
	})
	return list
}

// wrongHeads have one wrong thing each, or are all wrong.
func wrongHeads() []impl.Head {
	list := []impl.Head{{}, {Lace: true}, {Width: -1, Height: -1, Depth: -1, Color: -1}}
	eachKind(func(row colorRow, depth int) {
		right := impl.Head{Width: 3, Height: 2, Depth: depth, Color: row.color}
		for _, side := range wrongSides() {
			wide, high := right, right
			wide.Width, high.Height = side, side
			list = append(list, wide, high)
		}
		for _, other := range append(wrongDepths(row.color), 256+depth, depth-256, 1<<32+depth, -depth) {
			deep := right
			deep.Depth = other
			list = append(list, deep)
		}
		for _, other := range append(wrongColors(), 256+row.color, row.color-256, 1<<32+row.color) {
			none := right
			none.Color = other
			list = append(list, none)
		}
	})
	return list
}

func checkHead(t *testing.T, h impl.Head, want bool) {
	t.Helper()
	if impl.HeadOk(h) != want {
		t.Errorf("%+v: not %v", h, want)
	}
}

func checkNoHeadText(t *testing.T, h impl.Head) {
	t.Helper()
	if text, ok := impl.HeadText(h); text != "" || ok {
		t.Errorf("%+v: %q, %v; want a refusal", h, text, ok)
	}
}

func checkReadHead(t *testing.T, text string, want impl.Head) {
	t.Helper()
	if h, ok := impl.ReadHead(text); h != want || !ok {
		t.Errorf("%q: %+v, %v; want %+v", text, h, ok, want)
	}
}

func checkNoHead(t *testing.T, text string) {
	t.Helper()
	if h, ok := impl.ReadHead(text); h != (impl.Head{}) || ok {
		t.Errorf("%.40q: %+v, %v; want a refusal", text, h, ok)
	}
}

// checkByText wants the head that has this text, or none.
func checkByText(t *testing.T, heads map[string]impl.Head, text string) bool {
	t.Helper()
	want, right := heads[text]
	if h, ok := impl.ReadHead(text); h != want || ok != right {
		t.Fatalf("%.40q: %+v, %v; want %+v, %v", text, h, ok, want, right)
	}
	return right
}

func TestHeadOkSides(t *testing.T) {
	sides := append(wrongSides(), 1, 2, 23, 24, 1<<32+1, 1<<32+24, -1<<32+1)
	eachKind(func(row colorRow, depth int) {
		for _, width := range sides {
			for _, height := range sides {
				for _, lace := range bothLaces() {
					want := width >= 1 && width <= 24 && height >= 1 && height <= 24
					checkHead(t, impl.Head{Width: width, Height: height, Depth: depth, Color: row.color, Lace: lace}, want)
				}
			}
		}
	})
}

func TestHeadOkColorsAndDepths(t *testing.T) {
	colors, depths := append(oddNumbers(), 256, 258, 1<<32+6), noDepths()
	for n := -10; n <= 40; n++ {
		colors, depths = append(colors, n), append(depths, n)
	}
	right := map[[2]int]bool{}
	for _, color := range colors {
		for _, depth := range depths {
			want := slices.Contains(colorOf(color).depths, depth)
			checkHead(t, impl.Head{Width: 1, Height: 24, Depth: depth, Color: color}, want)
			checkHead(t, impl.Head{Width: 24, Height: 1, Depth: depth, Color: color, Lace: true}, want)
			if want {
				right[[2]int{color, depth}] = true
			}
		}
	}
	if len(right) != 15 {
		t.Errorf("%d kinds are right, not 15", len(right))
	}
}

func TestHeadOkAndWrongHeads(t *testing.T) {
	for _, h := range someHeads() {
		checkHead(t, h, true)
	}
	for _, h := range wrongHeads() {
		checkHead(t, h, false)
		h.Lace = true
		checkHead(t, h, false)
	}
}

func TestHeadTextInFigures(t *testing.T) {
	for _, c := range []struct {
		want string
		head impl.Head
	}{
		{"00000001000000010100000000", impl.Head{Width: 1, Height: 1, Depth: 1, Color: impl.ColorGray}},
		{"00000001000000010100000001", impl.Head{Width: 1, Height: 1, Depth: 1, Color: impl.ColorGray, Lace: true}},
		{"00000001000000010806000000", impl.Head{Width: 1, Height: 1, Depth: 8, Color: impl.ColorFullClear}},
		{"00000002000000030802000001", impl.Head{Width: 2, Height: 3, Depth: 8, Color: impl.ColorFull, Lace: true}},
		{"00000018000000011002000000", impl.Head{Width: 24, Height: 1, Depth: 16, Color: impl.ColorFull}},
		{"00000001000000180403000000", impl.Head{Width: 1, Height: 24, Depth: 4, Color: impl.ColorTable}},
		{"00000018000000181004000001", impl.Head{Width: 24, Height: 24, Depth: 16, Color: impl.ColorGrayClear, Lace: true}},
		{"00000011000000090203000001", impl.Head{Width: 17, Height: 9, Depth: 2, Color: impl.ColorTable, Lace: true}},
	} {
		want, err := hex.DecodeString(c.want)
		if err != nil {
			t.Fatal(err)
		}
		if text, ok := impl.HeadText(c.head); text != string(want) || !ok {
			t.Errorf("%+v: %x, %v; want %s", c.head, text, ok, c.want)
		}
		checkReadHead(t, string(want), c.head)
	}
}

func TestHeadTextRefuses(t *testing.T) {
	for _, h := range wrongHeads() {
		checkNoHeadText(t, h)
		h.Lace = true
		checkNoHeadText(t, h)
	}
}

func TestP17HeadsComeBack(t *testing.T) {
	texts := map[string]bool{}
	eachHead(func(h impl.Head) {
		text, ok := impl.HeadText(h)
		if !ok || len(text) != 13 || text != slowHeadText(h) {
			t.Fatalf("%+v: %q, %v; want %q", h, text, ok, slowHeadText(h))
		}
		if back, ok := impl.ReadHead(text); back != h || !ok {
			t.Fatalf("%+v, by %q: %+v, %v", h, text, back, ok)
		}
		texts[text] = true
	})
	if len(texts) != 24*24*15*2 {
		t.Errorf("%d texts of heads", len(texts))
	}
}

func TestReadHeadLengths(t *testing.T) {
	for _, h := range someHeads() {
		text := slowHeadText(h)
		long := strings.Repeat(text, 3)
		for size := range len(long) + 1 {
			if size != 13 {
				checkNoHead(t, long[:size])
			}
		}
		for _, more := range []string{"\x00", "\x01", "\xff", "\x00\x00", text} {
			checkNoHead(t, more+text)
			checkNoHead(t, text+more)
		}
		for at := range text {
			checkNoHead(t, without(text, at))
		}
		checkReadHead(t, text, h)
	}
	checkNoHead(t, strings.Repeat("\x00", 13))
	checkNoHead(t, strings.Repeat("\x01", 13))
	checkNoHead(t, strings.Repeat("\xff", 13))
	checkNoHead(t, strings.Repeat(slowHeadText(someHeads()[0]), 100000))
}

// Each byte of a right text turned to every other one: a byte of Lace, of a color, of a depth or of a side may be another head's.
func TestReadHeadEveryTurn(t *testing.T) {
	heads := headsByText()
	for _, h := range someHeads() {
		text := slowHeadText(h)
		for at := range text {
			for _, turn := range everyTurn() {
				turned := turnedAt(text, at, turn)
				right := checkByText(t, heads, turned)
				zero := at < 3 || at >= 4 && at < 7 || at == 10 || at == 11
				switch {
				case zero && right:
					t.Fatalf("%q is a head", turned)
				case at == 12 && right != (turned[12] < 2):
					t.Fatalf("%q: %v", turned, right)
				}
			}
		}
	}
}

func TestReadHeadOtherTexts(t *testing.T) {
	r := rand.New(rand.NewSource(209))
	heads := headsByText()
	some := someHeads()
	seen := map[bool]int{}
	for range 60000 {
		seen[checkByText(t, heads, spoilt(r, slowHeadText(some[r.Intn(len(some))])))]++
		checkByText(t, heads, randomText(r, r.Intn(20)))
		text := wordOf(uint32(r.Intn(27))) + wordOf(uint32(r.Intn(27))) + string([]byte{byte(1) << r.Intn(6), byte(r.Intn(8)), 0, 0, byte(r.Intn(3))})
		seen[checkByText(t, heads, text)]++
	}
	if seen[true] < 5000 || seen[false] < 5000 {
		t.Errorf("%v texts are right and not", seen)
	}
}

func slowTableText(list []impl.Rgb) string {
	var text []byte
	for _, c := range list {
		text = append(text, byte(c.R), byte(c.G), byte(c.B))
	}
	return string(text)
}

// tableOf has all bytes in each of the three places, when there are as many as may be.
func tableOf(first, step, size int) []impl.Rgb {
	list := make([]impl.Rgb, size)
	for i := range list {
		list[i] = impl.Rgb{R: (first + i) % 256, G: (first + 85 + i*step) % 256, B: (first + 255 - i%256) % 256}
	}
	return list
}

func checkNoTableText(t *testing.T, name string, list []impl.Rgb) {
	t.Helper()
	if text, ok := impl.TableText(list); text != "" || ok {
		t.Errorf("%s: %.40q of %d bytes, %v; want a refusal", name, text, len(text), ok)
	}
}

func checkNoTable(t *testing.T, name, text string) {
	t.Helper()
	if list, ok := impl.ReadTable(text); len(list) != 0 || ok {
		t.Errorf("%s: %.40v of %d colours, %v; want a refusal", name, list, len(list), ok)
	}
}

func checkTable(t *testing.T, list []impl.Rgb) {
	t.Helper()
	want := slowTableText(list)
	text, ok := impl.TableText(list)
	if !ok || len(text) != 3*len(list) || text != want {
		t.Fatalf("%d colours: %.40q of %d bytes, %v; want %.40q", len(list), text, len(text), ok, want)
	}
	if back, ok := impl.ReadTable(text); !ok || !slices.Equal(back, list) {
		t.Fatalf("%.40v of %d colours: %.40v of %d, %v", list, len(list), back, len(back), ok)
	}
}

func TestTableTextInFigures(t *testing.T) {
	for _, c := range []struct {
		want string
		list []impl.Rgb
	}{
		{"\x00\x00\x00", []impl.Rgb{{}}},
		{"\x01\x02\x03", []impl.Rgb{{R: 1, G: 2, B: 3}}},
		{"\xff\xff\xff", []impl.Rgb{{R: 255, G: 255, B: 255}}},
		{"\xff\x00\x80\x00\xff\x7f", []impl.Rgb{{R: 255, B: 128}, {G: 255, B: 127}}},
		{"abcabcxyz", []impl.Rgb{{R: 'a', G: 'b', B: 'c'}, {R: 'a', G: 'b', B: 'c'}, {R: 'x', G: 'y', B: 'z'}}},
	} {
		if text, ok := impl.TableText(c.list); text != c.want || !ok {
			t.Errorf("%v: %q, %v; want %q", c.list, text, ok, c.want)
		}
		if list, ok := impl.ReadTable(c.want); !slices.Equal(list, c.list) || !ok {
			t.Errorf("%q: %v, %v; want %v", c.want, list, ok, c.list)
		}
	}
}

func TestP17TablesComeBack(t *testing.T) {
	r := rand.New(rand.NewSource(210))
	for size := 1; size <= 256; size++ {
		checkTable(t, make([]impl.Rgb, size))
		checkTable(t, slices.Repeat([]impl.Rgb{{R: 255, G: 255, B: 255}}, size))
		checkTable(t, tableOf(0, 1, size))
		checkTable(t, tableOf(r.Intn(256), 1+2*r.Intn(128), size))
	}
	for first := range 256 {
		for _, size := range []int{1, 2, 255, 256} {
			checkTable(t, tableOf(first, 3, size))
		}
	}
}

func TestTableTextSizes(t *testing.T) {
	checkNoTableText(t, "no list", nil)
	checkNoTableText(t, "an empty list", []impl.Rgb{})
	checkNoTableText(t, "an empty list with room behind", tableOf(0, 1, 5)[:0])
	for _, size := range []int{257, 258, 511, 512, 513, 65536, 65537} {
		checkNoTableText(t, fmt.Sprintf("%d colours", size), make([]impl.Rgb, size))
		checkNoTableText(t, fmt.Sprintf("%d other colours", size), tableOf(0, 1, size))
	}
}

func TestTableTextNumbers(t *testing.T) {
	numbers := append(oddNumbers(), -256, -255, 127, 128, 254, 255, 256, 257, 511, 512, 1<<32+255, -1<<32+255, 1<<16)
	for _, size := range []int{1, 2, 3, 100, 256} {
		for _, at := range []int{0, size / 2, size - 1} {
			for _, n := range numbers {
				for place := range 3 {
					list := tableOf(7, 1, size)
					*[]*int{&list[at].R, &list[at].G, &list[at].B}[place] = n
					if n >= 0 && n <= 255 {
						checkTable(t, list)
						continue
					}
					checkNoTableText(t, fmt.Sprintf("%d at place %d of %d of %d", n, place, at, size), list)
				}
			}
		}
	}
}

func TestReadTableLengths(t *testing.T) {
	all := strings.Repeat(everyByteText(), 4)
	for size := range 1000 {
		text := all[:size]
		if size == 0 || size%3 != 0 || size > 768 {
			checkNoTable(t, fmt.Sprintf("%d bytes", size), text)
			continue
		}
		list, ok := impl.ReadTable(text)
		if !ok || len(list) != size/3 || slowTableText(list) != text {
			t.Fatalf("%d bytes: %.40v of %d colours, %v", size, list, len(list), ok)
		}
		if again, ok := impl.TableText(list); again != text || !ok {
			t.Fatalf("%d bytes: %.40q again, %v", size, again, ok)
		}
	}
	for _, size := range []int{0, 1, 2, 4, 767, 769, 770, 771, 1536, 3 * 65536, 3*65536 + 3, 3 << 20} {
		checkNoTable(t, fmt.Sprintf("%d bytes", size), strings.Repeat("\x00", size))
	}
}

// slowSample takes powers of two as they are, however great the depth.
func slowSample(n, depth int) bool {
	if n < 0 || depth < 0 {
		return false
	}
	if depth >= 64 {
		return true
	}
	return big.NewInt(int64(n)).Cmp(new(big.Int).Lsh(big.NewInt(1), uint(depth))) < 0
}

func slowClearOk(h impl.Head, table int, clear []int) bool {
	if len(clear) == 0 {
		return true
	}
	depth := h.Depth
	switch {
	case h.Color == 0 && len(clear) == 1:
	case h.Color == 2 && len(clear) == 3:
	case h.Color == 3 && len(clear) <= table:
		depth = 8
	default:
		return false
	}
	return !slices.ContainsFunc(clear, func(n int) bool { return !slowSample(n, depth) })
}

// slowClearText wants a right list.
func slowClearText(h impl.Head, clear []int) string {
	var text []byte
	for _, n := range clear {
		if h.Color != 3 {
			text = append(text, byte(n/256))
		}
		text = append(text, byte(n%256))
	}
	return string(text)
}

// slowReadClear goes by what each list would tell.
func slowReadClear(h impl.Head, table int, text string) ([]int, bool) {
	var clear []int
	for i := range len(text) {
		if n := int(text[i]); h.Color == 3 || i%2 == 0 {
			clear = append(clear, n)
		} else {
			clear[i/2] = 256*clear[i/2] + n
		}
	}
	if text == "" || !impl.HeadOk(h) || !slowClearOk(h, table, clear) || slowClearText(h, clear) != text {
		return nil, false
	}
	return clear, true
}

func checkClearOk(t *testing.T, h impl.Head, table int, clear []int, want bool) {
	t.Helper()
	if slowClearOk(h, table, clear) != want {
		t.Fatalf("%+v, table %d, %.40v is wanted to be %v", h, table, clear, want)
	}
	if impl.ClearOk(h, table, clear) != want {
		t.Errorf("%+v, table %d, %.40v of %d: not %v", h, table, clear, len(clear), want)
	}
}

func checkNoClearText(t *testing.T, h impl.Head, table int, clear []int) {
	t.Helper()
	if text, ok := impl.ClearText(h, table, clear); text != "" || ok {
		t.Errorf("%+v, table %d, %.40v of %d: %.40q, %v; want a refusal", h, table, clear, len(clear), text, ok)
	}
}

func checkNoClear(t *testing.T, h impl.Head, table int, text string) {
	t.Helper()
	if clear, ok := impl.ReadClear(h, table, text); len(clear) != 0 || ok {
		t.Errorf("%+v, table %d, %.40q of %d: %.40v, %v; want a refusal", h, table, text, len(text), clear, ok)
	}
}

// checkWrongClear wants the list to be none, of a right head.
func checkWrongClear(t *testing.T, h impl.Head, table int, clear []int) {
	t.Helper()
	checkClearOk(t, h, table, clear, false)
	checkNoClearText(t, h, table, clear)
}

// checkReadClear tells whether there was a list.
func checkReadClear(t *testing.T, h impl.Head, table int, text string) bool {
	t.Helper()
	want, right := slowReadClear(h, table, text)
	if clear, ok := impl.ReadClear(h, table, text); ok != right || !slices.Equal(clear, want) {
		t.Fatalf("%+v, table %d, %.40q of %d: %.40v, %v; want %.40v, %v", h, table, text, len(text), clear, ok, want, right)
	}
	return right
}

// checkP17Clear wants the list again, of one or two bytes for each.
func checkP17Clear(t *testing.T, h impl.Head, table int, clear []int) {
	t.Helper()
	checkClearOk(t, h, table, clear, true)
	text, ok := impl.ClearText(h, table, clear)
	if !ok || text != slowClearText(h, clear) {
		t.Fatalf("%+v, table %d, %.40v of %d: %.40q, %v; want %.40q", h, table, clear, len(clear), text, ok, slowClearText(h, clear))
	}
	if back, ok := impl.ReadClear(h, table, text); !ok || !slices.Equal(back, clear) {
		t.Fatalf("%+v, table %d, %.40v of %d, by %.40q: %.40v, %v", h, table, clear, len(clear), text, back, ok)
	}
}

func headOf(color, depth int) impl.Head {
	return impl.Head{Width: 3, Height: 5, Depth: depth, Color: color, Lace: depth%2 == 0}
}

// tableSizes are as many colours as a table may have, and numbers that are none.
func tableSizes() []int {
	return append(oddNumbers(), 3, 4, 6, 16, 255, 256, 257)
}

func TestClearOkOfNothing(t *testing.T) {
	heads := append(someHeads(), wrongHeads()...)
	for _, h := range heads {
		for _, table := range tableSizes() {
			checkClearOk(t, h, table, nil, true)
			checkClearOk(t, h, table, []int{}, true)
			checkClearOk(t, h, table, []int{1, 2, 3}[:0], true)
		}
	}
}

func TestClearOkNumbers(t *testing.T) {
	eachKind(func(row colorRow, depth int) {
		h, count, most := headOf(row.color, depth), row.channels, 1<<depth-1
		table := 7
		if row.color == impl.ColorTable {
			count, most = 7, 255
		}
		has := row.color == impl.ColorGray || row.color == impl.ColorFull || row.color == impl.ColorTable
		for at := range count {
			for _, n := range append(oddNumbers(), most-1, most, most+1, most+2, most/2, 255, 256, 65535, 65536, 1<<32+most, -most) {
				clear := slices.Repeat([]int{1}, count)
				clear[at] = n
				checkClearOk(t, h, table, clear, has && n >= 0 && n <= most)
			}
		}
	})
}

func TestClearOkHowMany(t *testing.T) {
	eachKind(func(row colorRow, depth int) {
		for count := 1; count <= 300; count++ {
			clear := make([]int, count)
			for _, table := range append(tableSizes(), count-1, count, count+1, -count) {
				want := row.color == 0 && count == 1 || row.color == 2 && count == 3 || row.color == 3 && count <= table
				checkClearOk(t, headOf(row.color, depth), table, clear, want)
			}
		}
	})
}

func TestClearOkOfTables(t *testing.T) {
	for _, depth := range []int{1, 2, 4, 8} {
		h := headOf(impl.ColorTable, depth)
		for table := 1; table <= 256; table++ {
			for _, most := range []int{0, 255} {
				checkClearOk(t, h, table, []int{most}, true)
				checkClearOk(t, h, table, slices.Repeat([]int{most}, table), true)
				checkClearOk(t, h, table, slices.Repeat([]int{most}, table+1), false)
			}
			for _, wrong := range []int{-1, 256} {
				for _, at := range []int{0, table / 2, table - 1} {
					clear := slices.Repeat([]int{255}, table)
					clear[at] = wrong
					checkClearOk(t, h, table, clear, false)
				}
			}
		}
		for _, table := range []int{0, -1, -2, -256, math.MinInt} {
			checkClearOk(t, h, table, []int{0}, false)
			checkClearOk(t, h, table, []int{255, 0}, false)
		}
	}
}

// Of colours of which nothing can be clear any number is one too many, in right heads and others.
func TestClearOkOfOtherColors(t *testing.T) {
	for _, color := range append(wrongColors(), impl.ColorGrayClear, impl.ColorFullClear) {
		for _, depth := range []int{0, 1, 2, 4, 8, 16, 64, -1} {
			for _, clear := range [][]int{{0}, {1}, {0, 0}, {0, 0, 0}, {0, 0, 0, 0}, make([]int, 256), {-1}, {255}} {
				for _, table := range tableSizes() {
					checkClearOk(t, headOf(color, depth), table, clear, false)
				}
			}
		}
	}
}

// Which numbers are right hangs on the color and the depth alone, and in a table on its size.
func TestClearOkOfOtherHeads(t *testing.T) {
	numbers := append(oddNumbers(), 3, 4, 15, 16, 255, 256, 65535, 65536, 1<<24-1, 1<<24, 1<<31-1, 1<<31, 1<<33-1, 1<<33, 1<<62-1)
	for _, side := range append(wrongSides(), 1, 24) {
		for _, depth := range append(noDepths(), fiveDepths()...) {
			for _, n := range numbers {
				for color, count := range map[int]int{impl.ColorGray: 1, impl.ColorFull: 3, impl.ColorTable: 2} {
					clear := make([]int, count)
					clear[count-1] = n
					h := impl.Head{Width: side, Height: 3, Depth: depth, Color: color}
					checkClearOk(t, h, 2, clear, slowClearOk(h, 2, clear))
				}
			}
		}
	}
}

func TestClearTextInFigures(t *testing.T) {
	for _, c := range []struct {
		head  impl.Head
		table int
		clear []int
		want  string
	}{
		{headOf(impl.ColorGray, 1), 0, []int{0}, "\x00\x00"},
		{headOf(impl.ColorGray, 1), 0, []int{1}, "\x00\x01"},
		{headOf(impl.ColorGray, 4), 9, []int{15}, "\x00\x0f"},
		{headOf(impl.ColorGray, 8), -1, []int{255}, "\x00\xff"},
		{headOf(impl.ColorGray, 16), 256, []int{0x1234}, "\x12\x34"},
		{headOf(impl.ColorGray, 16), 0, []int{65535}, "\xff\xff"},
		{headOf(impl.ColorFull, 8), 0, []int{1, 2, 3}, "\x00\x01\x00\x02\x00\x03"},
		{headOf(impl.ColorFull, 8), 0, []int{255, 0, 128}, "\x00\xff\x00\x00\x00\x80"},
		{headOf(impl.ColorFull, 16), 0, []int{0x0102, 0xfffe, 0x8000}, "\x01\x02\xff\xfe\x80\x00"},
		{headOf(impl.ColorTable, 1), 2, []int{0}, "\x00"},
		{headOf(impl.ColorTable, 1), 2, []int{255, 7}, "\xff\x07"},
		{headOf(impl.ColorTable, 8), 256, []int{1, 2, 3, 255}, "\x01\x02\x03\xff"},
	} {
		if text, ok := impl.ClearText(c.head, c.table, c.clear); text != c.want || !ok {
			t.Errorf("%+v, %v: %q, %v; want %q", c.head, c.clear, text, ok, c.want)
		}
		if clear, ok := impl.ReadClear(c.head, c.table, c.want); !slices.Equal(clear, c.clear) || !ok {
			t.Errorf("%+v, %q: %v, %v; want %v", c.head, c.want, clear, ok, c.clear)
		}
	}
}

func TestP17ClearComesBack(t *testing.T) {
	r := rand.New(rand.NewSource(211))
	for _, h := range someHeads() {
		most := 1<<h.Depth - 1
		switch h.Color {
		case impl.ColorGray:
			for _, table := range tableSizes() {
				checkP17Clear(t, h, table, []int{0})
				checkP17Clear(t, h, table, []int{most})
				checkP17Clear(t, h, table, mixedSamples(r, 1, h.Depth))
			}
		case impl.ColorFull:
			for _, table := range tableSizes() {
				for all := range 8 {
					checkP17Clear(t, h, table, []int{all & 1 * most, all >> 1 & 1 * most, all >> 2 * most})
				}
				checkP17Clear(t, h, table, mixedSamples(r, 3, h.Depth))
			}
		case impl.ColorTable:
			for _, table := range []int{1, 2, 3, 16, 255, 256} {
				for _, size := range []int{1, (table + 1) / 2, table} {
					checkP17Clear(t, h, table, make([]int, size))
					checkP17Clear(t, h, table, slices.Repeat([]int{255}, size))
					checkP17Clear(t, h, table, samplesInTurn(r.Intn(256), size, 8))
				}
			}
		}
	}
}

// Each sample there is, of every depth, and tables of every size.
func TestP17EachClear(t *testing.T) {
	r := rand.New(rand.NewSource(212))
	for _, depth := range fiveDepths() {
		for n := range 1 << depth {
			checkP17Clear(t, headOf(impl.ColorGray, depth), 0, []int{n})
			if depth >= 8 {
				checkP17Clear(t, headOf(impl.ColorFull, depth), 0, []int{n, r.Intn(1 << depth), 1<<depth - 1 - n})
			}
		}
	}
	for table := 1; table <= 256; table++ {
		for size := 1; size <= table; size++ {
			checkP17Clear(t, headOf(impl.ColorTable, 8), table, samplesInTurn(table, size, 8))
		}
	}
}

func TestClearTextRefuses(t *testing.T) {
	for _, h := range someHeads() {
		most := 1<<h.Depth - 1
		for _, table := range tableSizes() {
			checkNoClearText(t, h, table, nil)
			checkNoClearText(t, h, table, []int{})
			checkNoClearText(t, h, table, []int{1, 1, 1}[:0])
			for _, wrong := range []int{math.MinInt, -1, max(256, most+1), 65536, 1<<32 + 1, math.MaxInt} {
				checkWrongClear(t, h, table, []int{wrong})
				for at := range 3 {
					clear := []int{1, 1, 1}
					clear[at] = wrong
					checkWrongClear(t, h, table, clear)
				}
			}
			if h.Color != impl.ColorGray && h.Color != impl.ColorTable {
				checkWrongClear(t, h, table, []int{1})
			}
			if h.Color != impl.ColorFull && (h.Color != impl.ColorTable || table < 3) {
				checkWrongClear(t, h, table, []int{1, 1, 1})
			}
			if h.Color != impl.ColorTable || table < 2 {
				checkWrongClear(t, h, table, []int{1, 1})
				checkWrongClear(t, h, table, []int{1, 1, 1, 1})
			}
		}
		if h.Color == impl.ColorGray || h.Color == impl.ColorFull {
			checkWrongClear(t, h, 0, slices.Repeat([]int{most + 1}, colorOf(h.Color).channels))
		}
	}
}

// Heads that are not right have no text, though their list would be right.
func TestClearOfWrongHeads(t *testing.T) {
	right := 0
	for _, h := range wrongHeads() {
		for _, clear := range [][]int{nil, {0}, {1}, {0, 0}, {0, 0, 0}, {1, 0, 1}} {
			for _, table := range []int{-1, 0, 3, 256} {
				if len(clear) > 0 && impl.ClearOk(h, table, clear) {
					right++
				}
				checkNoClearText(t, h, table, clear)
				checkNoClear(t, h, table, slowClearText(h, clear))
				checkNoClear(t, h, table, slowClearText(headOf(impl.ColorTable, 8), clear))
			}
		}
	}
	if right < 1000 {
		t.Errorf("only %d lists are right in wrong heads", right)
	}
}

func TestReadClearLengths(t *testing.T) {
	r := rand.New(rand.NewSource(213))
	for _, h := range someHeads() {
		checkNoClear(t, h, 256, "")
		for _, table := range []int{math.MinInt, -1, 0, 1, 2, 3, 16, 255, 256} {
			for size := range 20 {
				want := h.Color == 0 && size == 2 || h.Color == 2 && size == 6 || h.Color == 3 && size >= 1 && size <= table
				if got := checkReadClear(t, h, table, strings.Repeat("\x00", size)); got != want {
					t.Fatalf("%+v, table %d, %d bytes: %v", h, table, size, got)
				}
				checkReadClear(t, h, table, randomText(r, size))
			}
			if table < 1 {
				continue
			}
			for _, size := range []int{table - 1, table, table + 1, 2 * table, 256 + table} {
				want := h.Color == 0 && size == 2 || h.Color == 2 && size == 6 || h.Color == 3 && size >= 1 && size <= table
				if got := checkReadClear(t, h, table, strings.Repeat("\x00", size)); got != want {
					t.Fatalf("%+v, table %d, %d bytes: %v", h, table, size, got)
				}
			}
		}
		checkNoClear(t, h, 256, strings.Repeat("\x00", 100001))
	}
}

// All texts of two bytes: of few bits most numbers are too great.
func TestReadClearEveryTwoBytes(t *testing.T) {
	for _, depth := range fiveDepths() {
		right := 0
		for n := range 1 << 16 {
			text := string([]byte{byte(n / 256), byte(n % 256)})
			if checkReadClear(t, headOf(impl.ColorGray, depth), 256, text) {
				right++
			}
		}
		if right != 1<<depth {
			t.Errorf("depth %d: %d texts are right", depth, right)
		}
	}
}

// Each of six bytes turned to every other one.
func TestReadClearOfFullColor(t *testing.T) {
	for _, c := range []struct {
		depth int
		right []int
	}{{8, []int{0, 255, 0, 255, 0, 255}}, {16, []int{255, 255, 255, 255, 255, 255}}} {
		h := headOf(impl.ColorFull, c.depth)
		for _, text := range []string{"\x00\x01\x00\x02\x00\x03", "\x00\x00\x00\x00\x00\x00", "\x00\xff\x00\xff\x00\xff"} {
			for at := range text {
				right := 0
				for _, turn := range everyTurn() {
					if checkReadClear(t, h, 0, turnedAt(text, at, turn)) {
						right++
					}
				}
				if right != c.right[at] {
					t.Errorf("depth %d, %q at %d: %d are right, not %d", c.depth, text, at, right, c.right[at])
				}
			}
		}
	}
}

func TestReadClearOtherTexts(t *testing.T) {
	r := rand.New(rand.NewSource(214))
	heads := append(someHeads(), wrongHeads()...)
	seen := map[bool]int{}
	for range 60000 {
		h := heads[r.Intn(len(heads))]
		if r.Intn(2) == 0 {
			h = someHeads()[r.Intn(150)]
		}
		table := r.Intn(10) - 1
		text := randomText(r, r.Intn(9))
		if r.Intn(3) > 0 {
			clear := mixedSamples(r, 1+r.Intn(3), []int{1, 2, 4, 8, 16}[r.Intn(5)])
			text = slowClearText(h, clear)
		}
		seen[checkReadClear(t, h, table, text)]++
		seen[checkReadClear(t, h, table, spoilt(r, text))]++
	}
	if seen[true] < 5000 || seen[false] < 5000 {
		t.Errorf("%v texts are right and not", seen)
	}
}

func TestHeadsShareNoMemory(t *testing.T) {
	for _, size := range []int{1, 2, 255, 256} {
		list := tableOf(3, 5, size)
		text := slowTableText(list)
		first, _ := impl.ReadTable(text)
		second, _ := impl.ReadTable(text)
		all := first[:cap(first)]
		for i := range all {
			all[i] = impl.Rgb{R: 1, G: -1, B: 1}
		}
		if !slices.Equal(second, list) || text != slowTableText(list) {
			t.Fatalf("%d colours: a second answer or the text was changed", size)
		}
		checkTable(t, list)
	}
	for _, h := range []impl.Head{headOf(impl.ColorGray, 16), headOf(impl.ColorFull, 8), headOf(impl.ColorTable, 4)} {
		clear := []int{9, 8, 7}
		if h.Color == impl.ColorGray {
			clear = []int{9}
		}
		text := slowClearText(h, clear)
		first, _ := impl.ReadClear(h, 3, text)
		second, _ := impl.ReadClear(h, 3, text)
		all := first[:cap(first)]
		for i := range all {
			all[i] = 77
		}
		if len(first) != len(clear) || !slices.Equal(second, clear) || text != slowClearText(h, clear) {
			t.Fatalf("%+v: a second answer %v or the text %q was changed", h, second, text)
		}
		checkP17Clear(t, h, 3, clear)
	}
}

func TestHeadsLeaveArgumentsAlone(t *testing.T) {
	spare := impl.Rgb{R: 77, G: 77, B: 77}
	for _, size := range []int{0, 1, 2, 256, 257} {
		want := tableOf(3, 5, size)
		room := append(slices.Clone(want), spare, spare)
		list := room[:size]
		told, _ := impl.TableText(list)
		if !slices.Equal(list, want) || room[size] != spare || room[size+1] != spare {
			t.Fatalf("%d colours were changed", size)
		}
		kept := strings.Clone(told)
		for i := range list {
			list[i] = spare
		}
		if told != kept {
			t.Fatalf("a text was changed: %.40q, not %.40q", told, kept)
		}
	}
	for _, h := range append(someHeads(), wrongHeads()...) {
		for _, want := range [][]int{nil, {0}, {1, 0}, {1, 0, 1}, {-1}, {0, 1, 65536}} {
			short, all := spared(want)
			impl.ClearOk(h, 3, short)
			told, _ := impl.ClearText(h, 3, short)
			if !slices.Equal(short, want) || !slices.Equal(all[len(want):], []int{77, 77, 77}) {
				t.Fatalf("%+v: %v in place of %v", h, all, want)
			}
			kept := strings.Clone(told)
			for i := range all {
				all[i] = 5
			}
			if told != kept {
				t.Fatalf("a text was changed: %q, not %q", told, kept)
			}
		}
	}
}

// What was refused or told ahead of a call changes nothing.
func TestHeadsKeepNothing(t *testing.T) {
	h := headOf(impl.ColorTable, 4)
	for range 3 {
		checkNoHeadText(t, impl.Head{})
		checkNoHead(t, slowHeadText(h)+"\x00")
		checkReadHead(t, slowHeadText(h), h)
		checkNoTableText(t, "a wrong number", append(tableOf(0, 1, 3), impl.Rgb{R: 256}))
		checkNoTable(t, "a byte left over", "abcd")
		checkTable(t, tableOf(0, 1, 4))
		checkNoClearText(t, h, 4, []int{1, 2, 3, 256})
		checkNoClear(t, h, 4, "abcde")
		checkP17Clear(t, h, 4, []int{1, 2, 3, 255})
	}
}

// Heads, tables and what is clear that were written elsewhere.
func TestHeadsOfAnotherWriter(t *testing.T) {
	tables, clears := 0, 0
	for _, file := range writtenElsewhere(t) {
		config, err := png.DecodeConfig(strings.NewReader(file))
		if err != nil {
			t.Fatal(err)
		}
		list, _ := impl.ReadChunks(file)
		h, ok := impl.ReadHead(list[0].Data)
		if !ok || h.Width != config.Width || h.Height != config.Height || h.Lace {
			t.Fatalf("%q: %+v, %v", list[0].Data, h, ok)
		}
		palette, _ := config.ColorModel.(color.Palette)
		for _, c := range list {
			switch c.Name {
			case "PLTE":
				table, ok := impl.ReadTable(c.Data)
				if !ok || len(table) != len(palette) || h.Color != impl.ColorTable {
					t.Fatalf("%q: %v, %v", c.Data, table, ok)
				}
				tables++
			case "tRNS":
				clear, ok := impl.ReadClear(h, len(palette), c.Data)
				if !ok || !slices.Equal(clear, []int{255, 7}) {
					t.Fatalf("%q: %v, %v", c.Data, clear, ok)
				}
				clears++
			}
		}
	}
	if tables == 0 || clears != tables {
		t.Errorf("%d tables, %d with something clear", tables, clears)
	}
}

// readElsewhere is a picture of our head, table and what is clear, all of whose pixels are 0, read by another reader.
func readElsewhere(t *testing.T, h impl.Head, table []impl.Rgb, clear []int) image.Image {
	t.Helper()
	head, _ := impl.HeadText(h)
	list := []impl.Chunk{{Name: "IHDR", Data: head}}
	if text, ok := impl.TableText(table); ok {
		list = append(list, impl.Chunk{Name: "PLTE", Data: text})
	}
	if text, ok := impl.ClearText(h, len(table), clear); ok {
		list = append(list, impl.Chunk{Name: "tRNS", Data: text})
	}
	lines := strings.Repeat("\x00", impl.ScanBytes(h.Width, h.Height, h.Color, h.Depth, h.Lace))
	list = append(list, impl.Chunk{Name: "IDAT", Data: storedZlib(lines)}, impl.Chunk{Name: "IEND"})
	picture, err := png.Decode(strings.NewReader(fileOf(list...)))
	if err != nil {
		t.Fatalf("%+v: %v", h, err)
	}
	return picture
}

func TestHeadsForAnotherReader(t *testing.T) {
	for _, h := range someHeads() {
		var table []impl.Rgb
		clears := map[int][][]int{}
		switch h.Color {
		case impl.ColorTable:
			table = tableOf(200, 1, 1<<h.Depth)
			clears = map[int][][]int{255: {nil, {255}, {255, 0}}, 0: {{0}, {0, 255}}, 100: {{100}, {100, 1}}}
		case impl.ColorGray:
			clears = map[int][][]int{255: {nil, {1}, {1<<h.Depth - 1}}, 0: {{0}}}
		case impl.ColorFull:
			clears = map[int][][]int{255: {nil, {0, 0, 1}, {0, 1, 0}, {1, 0, 0}}, 0: {{0, 0, 0}}}
		default:
			clears = map[int][][]int{0: {nil}}
		}
		for covers, lists := range clears {
			for _, clear := range lists {
				picture := readElsewhere(t, h, table, clear)
				if size := picture.Bounds().Size(); size.X != h.Width || size.Y != h.Height {
					t.Fatalf("%+v: %v", h, size)
				}
				got := color.NRGBAModel.Convert(picture.At(h.Width-1, h.Height-1)).(color.NRGBA)
				if int(got.A) != covers {
					t.Fatalf("%+v, clear %v: covers %d, not %d", h, clear, got.A, covers)
				}
				if h.Color == impl.ColorTable && covers == 255 && (impl.Rgb{R: int(got.R), G: int(got.G), B: int(got.B)}) != table[0] {
					t.Fatalf("%+v: %v, not %v", h, got, table[0])
				}
			}
		}
	}
}
