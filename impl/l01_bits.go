package impl

const (
	MaxBytes = 12000
	MaxTake  = 24
)

type Bits struct {
	Text string
	At   int
}

type Out struct {
	Text  string
	Count int
}

// giveUp is what a bitReader panics with when it is asked for what is not there.
type giveUp struct{}

// bitReader stands behind a pointer, so that whoever takes bits by it moves it on for all.
type bitReader struct {
	text string
	at   int
}

// A call that recovers answers the zero values of its results, which is just what a refusal is:
// so the faces need not look at what was caught.

func TakeBits(b Bits, n int) (int, Bits, bool) {
	defer func() { _ = recover() }()
	r := newBitReader(b)
	value := r.takeNumber(n)
	return value, r.bits(), true
}

func NextByte(b Bits) (Bits, bool) {
	defer func() { _ = recover() }()
	r := newBitReader(b)
	r.passToByte()
	return r.bits(), true
}

func newBitReader(b Bits) *bitReader {
	if len(b.Text) > MaxBytes || b.At < 0 || b.At > 8*len(b.Text) {
		panic(giveUp{})
	}
	return &bitReader{text: b.Text, at: b.At}
}

func (r *bitReader) bits() Bits { return Bits{Text: r.text, At: r.at} }

func (r *bitReader) takeBit() int {
	if r.at >= 8*len(r.text) {
		panic(giveUp{})
	}
	bit := int(r.text[r.at/8]>>(r.at%8)) & 1
	r.at++
	return bit
}

func (r *bitReader) takeNumber(n int) int {
	if n < 0 || n > MaxTake {
		panic(giveUp{})
	}
	value := 0
	for i := range n {
		value |= r.takeBit() << i
	}
	return value
}

func (r *bitReader) passToByte() { r.at = 8 * bytesFor(r.at) }

// bytesFor is asked only for counts that are known to be small: the sum would wrap round near the greatest int.
func bytesFor(count int) int { return (count + 7) / 8 }

func OutOk(w Out) bool {
	if w.Count < 0 || w.Count > 8*MaxBytes || len(w.Text) != bytesFor(w.Count) {
		return false
	}
	put := w.Count % 8
	return put == 0 || w.Text[len(w.Text)-1]>>put == 0
}

// bitWriter holds its own bytes, so that many bits are put without a new text for each.
type bitWriter struct {
	bytes []byte
	count int
}

func newBitWriter(w Out) *bitWriter {
	return &bitWriter{bytes: []byte(w.Text), count: w.Count}
}

func (w *bitWriter) out() Out { return Out{Text: string(w.bytes), Count: w.count} }

func (w *bitWriter) putBit(bit int) {
	if w.count%8 == 0 {
		w.bytes = append(w.bytes, 0)
	}
	w.bytes[w.count/8] |= byte(bit << (w.count % 8))
	w.count++
}

func (w *bitWriter) putNumber(value int, n int) {
	for i := range n {
		w.putBit(value >> i & 1)
	}
}

func (w *bitWriter) putCode(value int, n int) {
	for i := n - 1; i >= 0; i-- {
		w.putBit(value >> i & 1)
	}
}

func canPut(w Out, value int, n int) bool {
	if !OutOk(w) || n < 0 || n > MaxTake {
		return false
	}
	return value >= 0 && value < 1<<n && w.Count+n <= 8*MaxBytes
}

func PutBits(w Out, value int, n int) (Out, bool) {
	if !canPut(w, value, n) {
		return Out{}, false
	}
	more := newBitWriter(w)
	more.putNumber(value, n)
	return more.out(), true
}

func PutCode(w Out, value int, n int) (Out, bool) {
	if !canPut(w, value, n) {
		return Out{}, false
	}
	more := newBitWriter(w)
	more.putCode(value, n)
	return more.out(), true
}

func FillByte(w Out) (Out, bool) {
	if !OutOk(w) {
		return Out{}, false
	}
	// The left-over bits of a right Out are 0 already.
	return Out{Text: w.Text, Count: 8 * bytesFor(w.Count)}, true
}

func bigSizeOk(size int) bool { return size >= 1 && size <= 4 }

func BigText(n int, size int) (string, bool) {
	if !bigSizeOk(size) || n < 0 || n >= 1<<(8*size) {
		return "", false
	}
	bytes := make([]byte, size)
	for i := range bytes {
		bytes[i] = byte(n >> (8 * (size - 1 - i)))
	}
	return string(bytes), true
}

func ReadBig(text string, at int, size int) (int, bool) {
	if !bigSizeOk(size) || at < 0 || at > len(text)-size {
		return 0, false
	}
	n := 0
	for i := range size {
		n = n<<8 | int(text[at+i])
	}
	return n, true
}
