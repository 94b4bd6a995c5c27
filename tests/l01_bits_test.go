package tests

import (
	"math"
	"math/rand"
	"strings"
	"testing"

	"loop.example/g00099/impl"
)

// number is a value and the number of bits that it is put in.
type number struct{ value, n int }

// putter is PutBits or PutCode, and the same thing told by single bits.
type putter struct {
	name string
	put  func(impl.Out, int, int) (impl.Out, bool)
	bit  func(value, n, i int) int
}

func putters() []putter {
	return []putter{
		{"PutBits", impl.PutBits, func(value, n, i int) int { return value >> i & 1 }},
		{"PutCode", impl.PutCode, func(value, n, i int) int { return value >> (n - 1 - i) & 1 }},
	}
}

// someNumbers has each count of bits from 0 to MaxTake, with its least, greatest and some other values, in a mixed order.
func someNumbers(seed int64) []number {
	r := rand.New(rand.NewSource(seed))
	var list []number
	for n := 0; n <= impl.MaxTake; n++ {
		most := 1<<n - 1
		list = append(list, number{0, n}, number{most, n}, number{r.Intn(most + 1), n}, number{r.Intn(most + 1), n})
	}
	r.Shuffle(len(list), func(i, j int) { list[i], list[j] = list[j], list[i] })
	return list
}

// textOfBits lays bits into bytes by the document's own rule: bit b modulo 8 of byte b / 8.
func textOfBits(bits []int) string {
	bytes := make([]byte, (len(bits)+7)/8)
	for b, bit := range bits {
		if bit == 1 {
			bytes[b/8] += 1 << (b % 8)
		}
	}
	return string(bytes)
}

func putAll(t *testing.T, p putter, list []number) impl.Out {
	t.Helper()
	var w impl.Out
	var bits []int
	for _, x := range list {
		for i := 0; i < x.n; i++ {
			bits = append(bits, p.bit(x.value, x.n, i))
		}
		more, ok := p.put(w, x.value, x.n)
		if want := (impl.Out{Text: textOfBits(bits), Count: len(bits)}); !ok || more != want || !impl.OutOk(more) {
			t.Fatalf("%s of %d in %d bits: %#v, %v; want %#v", p.name, x.value, x.n, more, ok, want)
		}
		w = more
	}
	return w
}

func take(t *testing.T, b impl.Bits, n int) (int, impl.Bits) {
	t.Helper()
	value, behind, ok := impl.TakeBits(b, n)
	if !ok || behind != (impl.Bits{Text: b.Text, At: b.At + n}) {
		t.Fatalf("TakeBits at %d of %d: %d, at %d, %v", b.At, n, value, behind.At, ok)
	}
	return value, behind
}

func TestP1BitsComeBack(t *testing.T) {
	for seed := range int64(20) {
		list := someNumbers(seed)
		w := putAll(t, putters()[0], list)
		b := impl.Bits{Text: w.Text}
		for i, x := range list {
			var got int
			if got, b = take(t, b, x.n); got != x.value {
				t.Fatalf("seed %d, number %d in %d bits: %d; want %d", seed, i, x.n, got, x.value)
			}
		}
		if b.At != w.Count {
			t.Fatalf("seed %d: taken up to %d of %d bits", seed, b.At, w.Count)
		}
	}
}

func TestP1CodesComeBackHighestFirst(t *testing.T) {
	for seed := range int64(20) {
		list := someNumbers(seed)
		w := putAll(t, putters()[1], list)
		b := impl.Bits{Text: w.Text}
		for i, x := range list {
			got, bit := 0, 0
			for range x.n {
				bit, b = take(t, b, 1)
				got = 2*got + bit
			}
			if got != x.value {
				t.Fatalf("seed %d, code %d in %d bits: %d; want %d", seed, i, x.n, got, x.value)
			}
		}
		if b.At != w.Count {
			t.Fatalf("seed %d: taken up to %d of %d bits", seed, b.At, w.Count)
		}
	}
}

func TestP1WholeBytesAreAtWholeBytes(t *testing.T) {
	const tail = "\x00whole\xff"
	for n := 0; n <= impl.MaxTake; n++ {
		value := 1<<n - 1
		w, _ := impl.PutBits(impl.Out{}, value, n)
		w, ok := impl.FillByte(w)
		start := (n + 7) / 8
		if !ok || w.Count != 8*start || len(w.Text) != start || !impl.OutOk(w) {
			t.Fatalf("FillByte behind %d bits: %#v, %v", n, w, ok)
		}
		for i := 0; i < len(tail); i++ {
			if w, ok = impl.PutBits(w, int(tail[i]), 8); !ok {
				t.Fatal("a byte is not put")
			}
		}
		if w.Text[start:] != tail {
			t.Fatalf("behind %d bits stands %q", n, w.Text[start:])
		}
		got, b := take(t, impl.Bits{Text: w.Text}, n)
		b, ok = impl.NextByte(b)
		if !ok || got != value || b != (impl.Bits{Text: w.Text, At: 8 * start}) {
			t.Fatalf("NextByte behind %d bits: at %d, %v", n, b.At, ok)
		}
		if big, ok := impl.ReadBig(w.Text, b.At/8+1, 4); !ok || big != 0x77686f6c {
			t.Fatalf("ReadBig behind %d bits: %x, %v", n, big, ok)
		}
	}
}

func TestTakeBits(t *testing.T) {
	full := strings.Repeat("\xa5", impl.MaxBytes)
	end := 8 * impl.MaxBytes
	for _, c := range []struct {
		b     impl.Bits
		n     int
		value int
		ok    bool
	}{
		{impl.Bits{Text: "\x01\x02\x03"}, 0, 0, true},
		{impl.Bits{Text: "\x01\x02\x03\x04"}, 23, 0x030201, true},
		{impl.Bits{Text: "\x01\x02\x83\x04"}, 23, 0x030201, true},
		{impl.Bits{Text: "\x01\x02\x83\x04"}, 24, 0x830201, true},
		{impl.Bits{Text: "\x01\x02\x83\x04"}, 25, 0, false},
		{impl.Bits{Text: "\x01\x02\x83\x04"}, -1, 0, false},
		{impl.Bits{Text: "\x01\x02\x83\x04"}, math.MaxInt, 0, false},
		{impl.Bits{Text: "\x01\x02\x83\x04"}, math.MinInt, 0, false},
		{impl.Bits{Text: "\x01\x02\x83\x04", At: 8}, 24, 0x048302, true},
		{impl.Bits{Text: "\x01\x02\x83\x04", At: 9}, 24, 0, false},
		{impl.Bits{Text: "\x01\x02\x83\x04", At: 9}, 23, 0x024181, true},
		{impl.Bits{Text: "\x80", At: 7}, 1, 1, true},
		{impl.Bits{Text: "\x80", At: 7}, 2, 0, false},
		{impl.Bits{Text: "\x80", At: 8}, 0, 0, true},
		{impl.Bits{Text: "\x80", At: 8}, 1, 0, false},
		{impl.Bits{Text: "\x80", At: 9}, 0, 0, false},
		{impl.Bits{Text: "\x80", At: 9}, 1, 0, false},
		{impl.Bits{Text: "\x80", At: -1}, 0, 0, false},
		{impl.Bits{Text: "\x80", At: -1}, 1, 0, false},
		{impl.Bits{Text: "\x80", At: math.MaxInt}, 0, 0, false},
		{impl.Bits{Text: "\x80", At: math.MaxInt}, 24, 0, false},
		{impl.Bits{Text: "\x80", At: math.MinInt}, 24, 0, false},
		{impl.Bits{}, 0, 0, true},
		{impl.Bits{}, 1, 0, false},
		{impl.Bits{Text: full}, 16, 0xa5a5, true},
		{impl.Bits{Text: full, At: end - 24}, 24, 0xa5a5a5, true},
		{impl.Bits{Text: full, At: end - 23}, 24, 0, false},
		{impl.Bits{Text: full, At: end}, 0, 0, true},
		{impl.Bits{Text: full + "\x00"}, 0, 0, false},
		{impl.Bits{Text: full + "\x00"}, 8, 0, false},
	} {
		var behind impl.Bits
		if c.ok {
			behind = impl.Bits{Text: c.b.Text, At: c.b.At + c.n}
		}
		value, got, ok := impl.TakeBits(c.b, c.n)
		if value != c.value || got != behind || ok != c.ok {
			t.Errorf("TakeBits at %d of %d bytes, %d: %x, at %d, %v; want %x, at %d, %v",
				c.b.At, len(c.b.Text), c.n, value, got.At, ok, c.value, behind.At, c.ok)
		}
	}
}

func TestNextByte(t *testing.T) {
	full := strings.Repeat("\xff", impl.MaxBytes)
	for _, c := range []struct {
		text string
		at   int
		want int
		ok   bool
	}{
		{"ab", 0, 0, true},
		{"ab", 1, 8, true},
		{"ab", 7, 8, true},
		{"ab", 8, 8, true},
		{"ab", 9, 16, true},
		{"ab", 15, 16, true},
		{"ab", 16, 16, true},
		{"ab", 17, 0, false},
		{"ab", -1, 0, false},
		{"ab", math.MaxInt, 0, false},
		{"ab", math.MinInt, 0, false},
		{"", 0, 0, true},
		{"", 1, 0, false},
		{full, 8*impl.MaxBytes - 1, 8 * impl.MaxBytes, true},
		{full, 8 * impl.MaxBytes, 8 * impl.MaxBytes, true},
		{full, 8*impl.MaxBytes + 1, 0, false},
		{full + "x", 0, 0, false},
	} {
		var want impl.Bits
		if c.ok {
			want = impl.Bits{Text: c.text, At: c.want}
		}
		if got, ok := impl.NextByte(impl.Bits{Text: c.text, At: c.at}); got != want || ok != c.ok {
			t.Errorf("NextByte at %d of %d bytes: at %d, %v; want at %d, %v", c.at, len(c.text), got.At, ok, want.At, c.ok)
		}
	}
}

func wrongOuts() []impl.Out {
	return []impl.Out{
		{Text: "", Count: 1},
		{Text: "\x00", Count: 0},
		{Text: "\x00", Count: 9},
		{Text: "\x00\x00", Count: 8},
		{Text: "", Count: -1},
		{Text: "", Count: -7},
		{Text: "", Count: -8},
		{Text: "\x00", Count: -1},
		{Text: "\x02", Count: 1},
		{Text: "\x80", Count: 7},
		{Text: "\xff\x08", Count: 11},
		{Text: "", Count: math.MaxInt},
		{Text: "\x00", Count: math.MaxInt},
		{Text: "", Count: math.MinInt},
		{Text: strings.Repeat("\x00", impl.MaxBytes+1), Count: 8*impl.MaxBytes + 1},
		{Text: strings.Repeat("\x00", impl.MaxBytes+1), Count: 8*impl.MaxBytes + 8},
		{Text: strings.Repeat("\x00", impl.MaxBytes), Count: 8*impl.MaxBytes + 1},
	}
}

func TestOutOk(t *testing.T) {
	for _, w := range []impl.Out{
		{},
		{Text: "\x01", Count: 1},
		{Text: "\x00", Count: 1},
		{Text: "\x7f", Count: 7},
		{Text: "\xff", Count: 8},
		{Text: "\xff\x01", Count: 9},
		{Text: "\xff\x07", Count: 11},
		{Text: strings.Repeat("\xff", impl.MaxBytes), Count: 8 * impl.MaxBytes},
		{Text: strings.Repeat("\x7f", impl.MaxBytes), Count: 8*impl.MaxBytes - 1},
		{Text: strings.Repeat("\x01", impl.MaxBytes), Count: 8*impl.MaxBytes - 7},
	} {
		if !impl.OutOk(w) {
			t.Errorf("not right: %d bits in %d bytes", w.Count, len(w.Text))
		}
	}
	for _, w := range wrongOuts() {
		if impl.OutOk(w) {
			t.Errorf("right: %d bits in %d bytes", w.Count, len(w.Text))
		}
	}
}

func TestPutEdges(t *testing.T) {
	for _, c := range []struct {
		value, n int
		ok       bool
	}{
		{0, 0, true},
		{1, 0, false},
		{-1, 0, false},
		{0, -1, false},
		{0, math.MinInt, false},
		{0, math.MaxInt, false},
		{1, 1, true},
		{2, 1, false},
		{-1, 1, false},
		{1<<23 - 1, 23, true},
		{1 << 23, 23, false},
		{1<<24 - 1, 24, true},
		{1 << 24, 24, false},
		{0, 25, false},
		{1<<25 - 1, 25, false},
		{-1, 24, false},
		{math.MaxInt, 24, false},
		{math.MinInt, 24, false},
	} {
		for _, p := range putters() {
			var want impl.Out
			if c.ok {
				bits := []int{1, 0, 1}
				for i := range c.n {
					bits = append(bits, p.bit(c.value, c.n, i))
				}
				want = impl.Out{Text: textOfBits(bits), Count: len(bits)}
			}
			if got, ok := p.put(impl.Out{Text: "\x05", Count: 3}, c.value, c.n); got != want || ok != c.ok {
				t.Errorf("%s of %d in %d bits: %#v, %v; want %#v, %v", p.name, c.value, c.n, got, ok, want, c.ok)
			}
		}
	}
}

func TestPutOrder(t *testing.T) {
	start := impl.Out{Text: "\x03", Count: 2}
	if w, ok := impl.PutBits(start, 0b1101, 4); !ok || w != (impl.Out{Text: "\x37", Count: 6}) {
		t.Errorf("PutBits: %#v, %v", w, ok)
	}
	if w, ok := impl.PutCode(start, 0b1101, 4); !ok || w != (impl.Out{Text: "\x2f", Count: 6}) {
		t.Errorf("PutCode: %#v, %v", w, ok)
	}
	if w, ok := impl.PutBits(start, 0x123, 9); !ok || w != (impl.Out{Text: "\x8f\x04", Count: 11}) {
		t.Errorf("PutBits over a byte: %#v, %v", w, ok)
	}
	if w, ok := impl.PutCode(start, 0x123, 9); !ok || w != (impl.Out{Text: "\x27\x06", Count: 11}) {
		t.Errorf("PutCode over a byte: %#v, %v", w, ok)
	}
	if start != (impl.Out{Text: "\x03", Count: 2}) {
		t.Errorf("what was given became %#v", start)
	}
}

func TestPutUpToMaxBytes(t *testing.T) {
	const end = 8 * impl.MaxBytes
	for _, p := range putters() {
		for _, left := range []int{0, 1, 7, 8, 9, 24} {
			count := end - left
			w := impl.Out{Text: strings.Repeat("\x00", (count+7)/8), Count: count}
			for n := 0; n <= impl.MaxTake; n++ {
				got, ok := p.put(w, 1<<n-1, n)
				if n > left {
					if ok || got != (impl.Out{}) {
						t.Errorf("%s: %d bits are put where %d are left", p.name, n, left)
					}
				} else if !ok || got.Count != count+n || !impl.OutOk(got) {
					t.Errorf("%s: %d bits are not put where %d are left", p.name, n, left)
				}
			}
		}
	}
}

func TestWrongOutsAreRefused(t *testing.T) {
	for _, w := range wrongOuts() {
		for _, p := range putters() {
			for _, n := range []int{0, 1, impl.MaxTake} {
				if got, ok := p.put(w, 0, n); ok || got != (impl.Out{}) {
					t.Errorf("%s behind %d bits in %d bytes: %d bits, %v", p.name, w.Count, len(w.Text), got.Count, ok)
				}
			}
		}
		if got, ok := impl.FillByte(w); ok || got != (impl.Out{}) {
			t.Errorf("FillByte of %d bits in %d bytes: %d bits, %v", w.Count, len(w.Text), got.Count, ok)
		}
	}
}

func TestFillByte(t *testing.T) {
	full := strings.Repeat("\x01", impl.MaxBytes)
	for _, c := range []struct{ w, want impl.Out }{
		{impl.Out{}, impl.Out{}},
		{impl.Out{Text: "\x01", Count: 1}, impl.Out{Text: "\x01", Count: 8}},
		{impl.Out{Text: "\x7f", Count: 7}, impl.Out{Text: "\x7f", Count: 8}},
		{impl.Out{Text: "\xff", Count: 8}, impl.Out{Text: "\xff", Count: 8}},
		{impl.Out{Text: "\xff\x01", Count: 9}, impl.Out{Text: "\xff\x01", Count: 16}},
		{impl.Out{Text: full, Count: 8*impl.MaxBytes - 7}, impl.Out{Text: full, Count: 8 * impl.MaxBytes}},
		{impl.Out{Text: full, Count: 8 * impl.MaxBytes}, impl.Out{Text: full, Count: 8 * impl.MaxBytes}},
	} {
		if got, ok := impl.FillByte(c.w); !ok || got != c.want {
			t.Errorf("FillByte of %d bits: %d bits in %d bytes, %v", c.w.Count, got.Count, len(got.Text), ok)
		}
	}
}

func TestBigText(t *testing.T) {
	for _, c := range []struct {
		n, size int
		text    string
		ok      bool
	}{
		{0, 1, "\x00", true},
		{255, 1, "\xff", true},
		{256, 1, "", false},
		{256, 2, "\x01\x00", true},
		{1<<16 - 1, 2, "\xff\xff", true},
		{1 << 16, 2, "", false},
		{0x010203, 3, "\x01\x02\x03", true},
		{1<<24 - 1, 3, "\xff\xff\xff", true},
		{1 << 24, 3, "", false},
		{0x01020304, 4, "\x01\x02\x03\x04", true},
		{1<<32 - 1, 4, "\xff\xff\xff\xff", true},
		{1 << 32, 4, "", false},
		{0, 4, "\x00\x00\x00\x00", true},
		{0, 0, "", false},
		{0, 5, "", false},
		{1, 5, "", false},
		{0, -1, "", false},
		{0, math.MaxInt, "", false},
		{0, math.MinInt, "", false},
		{-1, 1, "", false},
		{-1, 4, "", false},
		{math.MaxInt, 4, "", false},
		{math.MinInt, 4, "", false},
	} {
		if text, ok := impl.BigText(c.n, c.size); text != c.text || ok != c.ok {
			t.Errorf("BigText of %d in %d: %q, %v; want %q, %v", c.n, c.size, text, ok, c.text, c.ok)
		}
	}
}

func TestReadBig(t *testing.T) {
	const text = "\x81\x02\x03\xff\x05"
	for _, c := range []struct {
		text     string
		at, size int
		n        int
		ok       bool
	}{
		{text, 0, 1, 0x81, true},
		{text, 0, 2, 0x8102, true},
		{text, 0, 3, 0x810203, true},
		{text, 0, 4, 0x810203ff, true},
		{text, 1, 4, 0x0203ff05, true},
		{text, 2, 4, 0, false},
		{text, 4, 1, 5, true},
		{text, 4, 2, 0, false},
		{text, 5, 1, 0, false},
		{text, -1, 1, 0, false},
		{text, -4, 4, 0, false},
		{text, 0, 0, 0, false},
		{text, 0, 5, 0, false},
		{text, 0, -1, 0, false},
		{text, 0, math.MaxInt, 0, false},
		{text, 0, math.MinInt, 0, false},
		{text, math.MaxInt, 4, 0, false},
		{text, math.MinInt, 4, 0, false},
		{"", 0, 1, 0, false},
		{"", 0, 0, 0, false},
		{"ab", 0, 4, 0, false},
		{strings.Repeat("x", impl.MaxBytes) + "\x07", impl.MaxBytes, 1, 7, true},
	} {
		if n, ok := impl.ReadBig(c.text, c.at, c.size); n != c.n || ok != c.ok {
			t.Errorf("ReadBig at %d in %d of %d bytes: %x, %v; want %x, %v", c.at, c.size, len(c.text), n, ok, c.n, c.ok)
		}
	}
}

func TestBigNumbersComeBack(t *testing.T) {
	r := rand.New(rand.NewSource(1))
	for size := 1; size <= 4; size++ {
		most := 1<<(8*size) - 1
		for i := range 200 {
			n := r.Intn(most + 1)
			ahead := strings.Repeat("?", i%7)
			text, ok := impl.BigText(n, size)
			got, fine := impl.ReadBig(ahead+text+"!", len(ahead), size)
			if !ok || !fine || len(text) != size || got != n {
				t.Fatalf("%d in %d bytes: %q, %v; read %d, %v", n, size, text, ok, got, fine)
			}
		}
	}
}
