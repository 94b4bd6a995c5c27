package tests

import (
	"hash/adler32"
	"hash/crc32"
	"math"
	"math/rand"
	"strings"
	"sync"
	"testing"

	"loop.example/g00099/impl"
)

// halvings moves a sum on by one byte as the document tells it, bit by bit.
func halvings(sum uint32, b byte) uint32 {
	sum ^= uint32(b)
	for range 8 {
		odd := sum%2 == 1
		sum /= 2
		if odd {
			sum ^= 3988292384
		}
	}
	return sum
}

func slowCrcMore(sum uint32, text string) uint32 {
	sum ^= 4294967295
	for i := 0; i < len(text); i++ {
		sum = halvings(sum, text[i])
	}
	return sum ^ 4294967295
}

func slowCrcJoin(a, b uint32, size int) uint32 {
	for range size {
		a = halvings(a, 0)
	}
	return a ^ b
}

func slowAdlerMore(sum uint32, text string) uint32 {
	p, q := uint64(sum)%65536%65521, uint64(sum)/65536%65521
	for i := 0; i < len(text); i++ {
		p = (p + uint64(text[i])) % 65521
		q = (q + p) % 65521
	}
	return uint32(q*65536 + p)
}

// slowAdlerJoin goes on byte by byte, each of which adds p - 1, so that nothing has to be multiplied.
func slowAdlerJoin(a, b uint32, size int) uint32 {
	p, q := uint64(a)%65536%65521, uint64(a)/65536%65521
	r, s := uint64(b)%65536%65521, uint64(b)/65536%65521
	for range size {
		q = (q + p + 65520) % 65521
	}
	return uint32((q+s)%65521*65536 + (p+r+65520)%65521)
}

// oddSums are sums that texts have, and such as none has: halves of 65521 and more.
func oddSums() []uint32 {
	list := []uint32{0, 1, 2, 255, 256, 65520, 1 << 31, 1<<31 - 1, 3988292384, 3421780262, 300286872, 4294967295, 4294967294}
	halves := []uint32{0, 1, 65519, 65520, 65521, 65522, 65535}
	for _, q := range halves {
		for _, p := range halves {
			list = append(list, q<<16|p)
		}
	}
	return list
}

func randomText(r *rand.Rand, size int) string {
	b := make([]byte, size)
	r.Read(b)
	return string(b)
}

func sumTexts() []string {
	r := rand.New(rand.NewSource(2))
	list := []string{"", "a", "\x00", "\xff", "123456789", "Wikipedia", "\x00\x00\x00\x00", strings.Repeat("\xff", 300)}
	all := make([]byte, 256)
	for i := range all {
		all[i] = byte(i)
	}
	list = append(list, string(all))
	for _, size := range []int{2, 3, 17, 64, 257, 400} {
		list = append(list, randomText(r, size))
	}
	return list
}

func TestSumsOfNothing(t *testing.T) {
	if got := impl.Crc(""); got != 0 {
		t.Errorf("Crc of nothing: %d", got)
	}
	if got := impl.Adler(""); got != 1 {
		t.Errorf("Adler of nothing: %d", got)
	}
	for _, sum := range oddSums() {
		if got := impl.CrcMore(sum, ""); got != sum {
			t.Errorf("CrcMore of %d and nothing: %d", sum, got)
		}
		if got, want := impl.AdlerMore(sum, ""), sum>>16%65521<<16|sum&65535%65521; got != want {
			t.Errorf("AdlerMore of %d and nothing: %d, want %d", sum, got, want)
		}
	}
}

func TestSumsAreTheKnownOnes(t *testing.T) {
	for _, x := range []struct {
		text       string
		crc, adler uint32
	}{
		{"123456789", 3421780262, 152961502},
		{"Wikipedia", 2913648686, 300286872},
		{"a", 3904355907, 6422626},
		{"\x00", 3523407757, 65537},
		{"IEND", 2923585666, 47644961},
	} {
		if got := impl.Crc(x.text); got != x.crc {
			t.Errorf("Crc of %q: %d, want %d", x.text, got, x.crc)
		}
		if got := impl.Adler(x.text); got != x.adler {
			t.Errorf("Adler of %q: %d, want %d", x.text, got, x.adler)
		}
	}
	for _, text := range sumTexts() {
		if got, want := impl.Crc(text), crc32.ChecksumIEEE([]byte(text)); got != want {
			t.Errorf("Crc of %q: %d, want %d", text, got, want)
		}
		if got, want := impl.Adler(text), adler32.Checksum([]byte(text)); got != want {
			t.Errorf("Adler of %q: %d, want %d", text, got, want)
		}
	}
}

func TestP2SumsGoOnAndJoin(t *testing.T) {
	for _, text := range sumTexts() {
		crc, adler := impl.Crc(text), impl.Adler(text)
		for cut := 0; cut <= len(text); cut++ {
			a, b := text[:cut], text[cut:]
			if got := impl.CrcMore(impl.Crc(a), b); got != crc {
				t.Fatalf("CrcMore of %q behind %q: %d, want %d", b, a, got, crc)
			}
			if got := impl.AdlerMore(impl.Adler(a), b); got != adler {
				t.Fatalf("AdlerMore of %q behind %q: %d, want %d", b, a, got, adler)
			}
			if got := impl.CrcJoin(impl.Crc(a), impl.Crc(b), len(b)); got != crc {
				t.Fatalf("CrcJoin of %q and %q: %d, want %d", a, b, got, crc)
			}
			if got := impl.AdlerJoin(impl.Adler(a), impl.Adler(b), len(b)); got != adler {
				t.Fatalf("AdlerJoin of %q and %q: %d, want %d", a, b, got, adler)
			}
		}
	}
}

func TestP2ManyParts(t *testing.T) {
	r := rand.New(rand.NewSource(22))
	for range 50 {
		var text string
		more, joined := [2]uint32{0, 1}, [2]uint32{0, 1}
		for range 12 {
			part := randomText(r, r.Intn(60))
			text += part
			more = [2]uint32{impl.CrcMore(more[0], part), impl.AdlerMore(more[1], part)}
			joined = [2]uint32{impl.CrcJoin(joined[0], impl.Crc(part), len(part)), impl.AdlerJoin(joined[1], impl.Adler(part), len(part))}
		}
		if want := [2]uint32{impl.Crc(text), impl.Adler(text)}; more != want || joined != want {
			t.Fatalf("%q: %v by more, %v by joins, want %v", text, more, joined, want)
		}
	}
}

func TestP2OneByteTurned(t *testing.T) {
	for _, text := range sumTexts() {
		crc := impl.Crc(text)
		for i := 0; i < len(text); i++ {
			for turn := 1; turn < 256; turn++ {
				other := []byte(text)
				other[i] ^= byte(turn)
				if impl.Crc(string(other)) == crc {
					t.Fatalf("%q has the Crc of %q", other, text)
				}
			}
		}
	}
}

func TestMoreOfAnySum(t *testing.T) {
	r := rand.New(rand.NewSource(23))
	sums := oddSums()
	for range 50 {
		sums = append(sums, r.Uint32())
	}
	for _, sum := range sums {
		for _, text := range sumTexts() {
			if got, want := impl.CrcMore(sum, text), slowCrcMore(sum, text); got != want {
				t.Fatalf("CrcMore of %d and %q: %d, want %d", sum, text, got, want)
			}
			if got, want := impl.AdlerMore(sum, text), slowAdlerMore(sum, text); got != want {
				t.Fatalf("AdlerMore of %d and %q: %d, want %d", sum, text, got, want)
			}
		}
	}
}

func checkJoin(t *testing.T, a, b uint32, size int) {
	t.Helper()
	if got, want := impl.CrcJoin(a, b, size), slowCrcJoin(a, b, size); got != want {
		t.Fatalf("CrcJoin of %d, %d, %d: %d, want %d", a, b, size, got, want)
	}
	if got, want := impl.AdlerJoin(a, b, size), slowAdlerJoin(a, b, size); got != want {
		t.Fatalf("AdlerJoin of %d, %d, %d: %d, want %d", a, b, size, got, want)
	}
}

func TestJoinOfAnySums(t *testing.T) {
	for _, a := range oddSums() {
		for _, b := range oddSums() {
			for _, size := range []int{0, 1, 2, 255} {
				checkJoin(t, a, b, size)
			}
		}
		for _, size := range []int{impl.MaxBytes - 1, impl.MaxBytes} {
			checkJoin(t, a, 4294967295, size)
			checkJoin(t, a, 0, size)
		}
	}
}

func TestJoinAtTheGreatestSize(t *testing.T) {
	r := rand.New(rand.NewSource(24))
	for _, size := range []int{impl.MaxBytes - 1, impl.MaxBytes} {
		for _, b := range []string{randomText(r, size), strings.Repeat("\xff", size), strings.Repeat("\x00", size)} {
			for _, a := range []string{"", "a", "\x00", randomText(r, 1000), strings.Repeat("\xff", impl.MaxBytes)} {
				if got, want := impl.CrcJoin(impl.Crc(a), impl.Crc(b), size), impl.Crc(a+b); got != want {
					t.Errorf("CrcJoin of %d and %d bytes: %d, want %d", len(a), size, got, want)
				}
				if got, want := impl.AdlerJoin(impl.Adler(a), impl.Adler(b), size), impl.Adler(a+b); got != want {
					t.Errorf("AdlerJoin of %d and %d bytes: %d, want %d", len(a), size, got, want)
				}
			}
		}
	}
}

func TestJoinOfWrongSize(t *testing.T) {
	for _, size := range []int{-1, -2, -impl.MaxBytes, impl.MaxBytes + 1, 1 << 32, 1<<32 + 1, math.MinInt, math.MinInt + 1, math.MaxInt - 1, math.MaxInt} {
		for _, a := range oddSums() {
			for _, b := range oddSums() {
				if got := impl.CrcJoin(a, b, size); got != 0 {
					t.Fatalf("CrcJoin of %d, %d, %d: %d", a, b, size, got)
				}
				if got := impl.AdlerJoin(a, b, size); got != 0 {
					t.Fatalf("AdlerJoin of %d, %d, %d: %d", a, b, size, got)
				}
			}
		}
	}
}

func TestSumsOfLongTexts(t *testing.T) {
	r := rand.New(rand.NewSource(25))
	for _, size := range []int{impl.MaxBytes - 1, impl.MaxBytes, impl.MaxBytes + 1, 3 * impl.MaxBytes, 1 << 20} {
		for _, text := range []string{randomText(r, size), strings.Repeat("\xff", size), strings.Repeat("\x00", size)} {
			crc, adler := crc32.ChecksumIEEE([]byte(text)), adler32.Checksum([]byte(text))
			if got := impl.Crc(text); got != crc {
				t.Errorf("Crc of %d bytes: %d, want %d", size, got, crc)
			}
			if got := impl.Adler(text); got != adler {
				t.Errorf("Adler of %d bytes: %d, want %d", size, got, adler)
			}
			if got := impl.CrcMore(impl.Crc(text[:99]), text[99:]); got != crc {
				t.Errorf("CrcMore of %d bytes: %d, want %d", size, got, crc)
			}
			if got := impl.AdlerMore(impl.Adler(text[:99]), text[99:]); got != adler {
				t.Errorf("AdlerMore of %d bytes: %d, want %d", size, got, adler)
			}
			if got, want := impl.CrcMore(4294967295, text), slowCrcMore(4294967295, text); got != want {
				t.Errorf("CrcMore of 4294967295 and %d bytes: %d, want %d", size, got, want)
			}
			if got, want := impl.AdlerMore(4294967295, text), slowAdlerMore(4294967295, text); got != want {
				t.Errorf("AdlerMore of 4294967295 and %d bytes: %d, want %d", size, got, want)
			}
		}
	}
}

// Sums asked for by many at once share the words that are filled once.
func TestSumsAtOnce(t *testing.T) {
	var all sync.WaitGroup
	got := make([]uint32, 16)
	for i := range got {
		all.Go(func() { got[i] = impl.CrcJoin(impl.Crc("1234"), impl.Crc("56789"), 5) })
	}
	all.Wait()
	for i, sum := range got {
		if sum != 3421780262 {
			t.Errorf("%d: %d", i, sum)
		}
	}
}
