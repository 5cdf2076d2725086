package deflate

import (
	"bytes"
	"compress/flate"
	"fmt"
	"math/rand"
	"slices"
	"strings"
	"testing"

	"vellum/api"
)

// puts wants packed bytes to put out a text, all of them, with what stands
// behind them left alone.
func puts(t *testing.T, name, packed string, window int, want string) {
	t.Helper()
	for _, behind := range []string{"", "\x00", "\xff\xff\xff"} {
		out, taken, e := Inflate(packed+behind, window, len(want))
		if e != api.OK || taken != len(packed) || out != want {
			t.Errorf("P5: %s: %.40q (%d bytes), %d, %d, want %.40q (%d bytes), %d", name, out, len(out), taken, e, want, len(want), len(packed))
		}
	}
}

// isNone wants packed bytes to be malformed, with all other results zero.
func isNone(t *testing.T, name, packed string, window, most int) {
	t.Helper()
	if out, taken, e := Inflate(packed, window, most); e != api.ErrMalformed || out != "" || taken != 0 {
		t.Errorf("P5: %s: %.40q (%d bytes), %d, %d, want ErrMalformed", name, out, len(out), taken, e)
	}
}

// breaks wants packed bytes to be malformed by what stands in them, not by
// ending too early: nothing that could follow mends them.
func breaks(t *testing.T, name, packed string) {
	t.Helper()
	for _, behind := range []string{"\x00", "\xff", "\x55", "\x13"} {
		isNone(t, name, packed+strings.Repeat(behind, 400), api.MaxWindow, api.MaxOut)
	}
}

func textOf(count int) string {
	b := make([]byte, count)
	for i := range b {
		b[i] = byte(i*i>>7 ^ i)
	}
	return string(b)
}

// pack packs a text by the library.
func pack(s string, level int) string {
	var out bytes.Buffer
	w, _ := flate.NewWriter(&out, level)
	w.Write([]byte(s))
	w.Close()
	return out.String()
}

type example struct{ name, packed, out string }

// severalBlocks has blocks of every sort, and copies that reach across them.
func severalBlocks() example {
	p := &packer{}
	p.stored(false, "one ")
	c := p.fixed(false)
	c.text("two ")
	c.copyOf(8, 8)
	c.end()
	p.stored(false, "")
	c = p.own(false, lengthsOf(258, 'a', 2, 'b', 2, 256, 2, 257, 2), lengthsOf(12, 11, 1, 3, 1))
	c.text("ab")
	c.again(257, 0, 0, 3, 0, 0)
	c.end()
	c = p.fixed(true)
	c.copyOf(258, 1)
	c.end()
	return example{"several blocks", p.packed(), "one two one two abo a" + strings.Repeat("a", 258)}
}

// ordinary has packed bytes of every sort, with what they put out.
func ordinary() []example {
	own := ownBlock(lengthsOf(258, 'x', 2, 'y', 2, 256, 2, 257, 2), lengthsOf(2, 1, 1), func(c *coded) {
		c.text("xy")
		c.again(257, 0, 0, 1, 0, 0)
		c.end()
	})
	all := fixedBlock(func(c *coded) { c.text(textOf(256)); c.end() })
	long := textOf(3000)
	return []example{
		{"nothing, sort 1", "\x03\x00", ""},
		{"a, sort 1", "\x4b\x04\x00", "a"},
		{"hi, sort 0", "\x01\x02\x00\xfd\xff\x68\x69", "hi"},
		{"nothing, sort 0", "\xf9\x00\x00\xff\xff", ""},
		{"many bytes, sort 1", all, textOf(256)},
		{"sort 2", own, "xyxyx"},
		severalBlocks(),
		{"stored by the library", pack(long, 0), long},
		{"huffman only by the library", pack(long, -2), long},
		{"packed by the library", pack(long+long[:700], 9), long + long[:700]},
	}
}

func TestOrdinaryPackedBytes(t *testing.T) {
	for _, c := range ordinary() {
		puts(t, c.name, c.packed, api.MaxWindow, c.out)
	}
}

func TestEveryEarlyEnd(t *testing.T) {
	for _, c := range ordinary() {
		for n := range len(c.packed) {
			isNone(t, fmt.Sprintf("%s, the first %d bytes", c.name, n), c.packed[:n], api.MaxWindow, api.MaxOut)
		}
	}
}

// Up to just so many bytes may be put out, by whatever way the last ones come.
func TestMostBytes(t *testing.T) {
	for _, c := range ordinary() {
		for _, most := range []int{len(c.out), len(c.out) + 1, api.MaxOut} {
			if out, _, e := Inflate(c.packed, api.MaxWindow, most); out != c.out || e != api.OK {
				t.Errorf("P5: %s, most %d: %d bytes, %d", c.name, most, len(out), e)
			}
		}
		for most := max(0, len(c.out)-300); most < len(c.out); most++ {
			isNone(t, fmt.Sprintf("%s, most %d", c.name, most), c.packed, api.MaxWindow, most)
		}
	}
}

func TestAsManyBytesAsThereMayBe(t *testing.T) {
	zeros := strings.Repeat("\x00", api.MaxOut)
	puts(t, "16777216 bytes", pack(zeros, 6), api.MaxWindow, zeros)
	isNone(t, "16777217 bytes", pack(zeros+"\x00", 6), api.MaxWindow, api.MaxOut)
}

func TestNumbersThatMayNotBe(t *testing.T) {
	least, greatest := -1<<63, 1<<63-1
	for _, window := range []int{least, -1, 0, 1, 2, 32767, 32768, 32769, greatest} {
		for _, most := range []int{least, -1, 0, 1, 16777215, 16777216, 16777217, greatest} {
			want := api.OK
			if window < 1 || window > 32768 || most < 0 || most > 16777216 {
				want = api.ErrLimit
			}
			if out, taken, e := Inflate("\x03\x00", window, most); e != want || out != "" || e == api.OK && taken != 2 || e != api.OK && taken != 0 {
				t.Errorf("P5: window %d, most %d: %q, %d, %d, want %d", window, most, out, taken, e, want)
			}
			if want == api.OK {
				want = api.ErrMalformed
			}
			if out, taken, e := Inflate("\x07", window, most); e != want || out != "" || taken != 0 {
				t.Errorf("P1: window %d, most %d, and sort 3: %q, %d, %d, want %d", window, most, out, taken, e, want)
			}
		}
	}
}

func TestSort3(t *testing.T) {
	breaks(t, "the last block is of sort 3", "\x07")
	breaks(t, "the first block is of sort 3", "\x06")
	p := &packer{}
	p.stored(false, "abc")
	p.fixed(false).end()
	p.block(true, 3)
	breaks(t, "the third block is of sort 3", p.packed())
}

func TestStoredCounts(t *testing.T) {
	text := textOf(65535)
	for _, count := range []int{0, 1, 255, 256, 258, 32768, 65534, 65535} {
		p := &packer{}
		p.stored(true, text[:count])
		puts(t, fmt.Sprintf("%d bytes", count), p.packed(), api.MaxWindow, text[:count])
		for bit := 8; bit < 40; bit++ {
			wrong := slices.Clone(p.out)
			wrong[bit/8] ^= 1 << (bit % 8)
			isNone(t, fmt.Sprintf("%d bytes, the bit %d turned over", count, bit), string(wrong)+text, api.MaxWindow, api.MaxOut)
		}
	}
	isNone(t, "a count that stands there twice", "\x01\x02\x00\x02\x00hi", api.MaxWindow, api.MaxOut)
}

// What is passed over ahead of a block's bytes may be any bits, and none at
// all if the byte is at its end.
func TestStoredBehindAnyNumberOfBits(t *testing.T) {
	for before := range 16 {
		for _, filler := range []int{0, 1} {
			p := &packer{}
			want := ""
			for range before {
				p.fixed(false).end() // 10 bits
			}
			if before%2 == 1 {
				c := p.fixed(false)
				c.text("\xff") // 9 bits, so that all places of a byte come
				c.end()
				want = "\xff"
			}
			p.block(true, 0)
			p.align(filler)
			p.number(2, 16)
			p.number(65533, 16)
			p.number('h'|'i'<<8, 16)
			puts(t, fmt.Sprintf("a stored block behind %d others", before), p.packed(), api.MaxWindow, want+"hi")
		}
	}
}

func TestSymbolsThatStandForNothing(t *testing.T) {
	for _, symbol := range []int{286, 287} {
		breaks(t, fmt.Sprintf("the literal symbol %d", symbol), fixedBlock(func(c *coded) {
			c.text("abcdef")
			c.code(c.literals[symbol])
			c.code(c.distances[0])
			c.end()
		}))
	}
	for _, symbol := range []int{30, 31} {
		breaks(t, fmt.Sprintf("the distance symbol %d", symbol), fixedBlock(func(c *coded) {
			c.text("abcdef")
			c.again(257, 0, 0, symbol, 0, 0)
			c.end()
		}))
	}
}

func TestEveryLength(t *testing.T) {
	for i, length := range lengthsOfDoc {
		for more := range 1 << length.bits {
			puts(t, fmt.Sprintf("the symbol %d and %d", 257+i, more), fixedBlock(func(c *coded) {
				c.text("abc")
				c.again(257+i, more, length.bits, 2, 0, 0)
				c.end()
			}), 3, strings.Repeat("abc", 90)[:3+length.least+more])
		}
	}
}

// farText has no piece of three bytes twice within 40000 bytes.
func farText() string {
	b := make([]byte, 0, 40002)
	for i := 0; len(b) < 40000; i++ {
		b = append(b, byte(i>>8), byte(i), 0xee^byte(i*7))
	}
	return string(b)
}

// packedBehind gives blocks of sort 0 with a text, and a copy of 3 bytes of it.
func packedBehind(text string, symbol, more, width int) string {
	p := &packer{}
	for _, piece := range []string{text[:len(text)/2], text[len(text)/2:]} {
		p.stored(false, piece)
	}
	c := p.fixed(true)
	c.again(257, 0, 0, symbol, more, width)
	c.end()
	return p.packed()
}

func TestEveryDistanceSymbol(t *testing.T) {
	text := farText()
	for symbol, distance := range distancesOfDoc {
		for _, more := range []int{0, 1, 1<<distance.bits/2 - 1, 1 << distance.bits / 2, 1<<distance.bits - 1} {
			if more < 0 || more >= 1<<distance.bits {
				continue
			}
			far := distance.least + more
			again := (text[len(text)-far:] + text[len(text)-far:] + text[len(text)-far:])[:3]
			packed := packedBehind(text, symbol, more, distance.bits)
			puts(t, fmt.Sprintf("distance %d", far), packed, far, text+again)
			if far > 1 {
				isNone(t, fmt.Sprintf("distance %d, window one less", far), packed, far-1, api.MaxOut)
			}
		}
	}
}

func TestDistancesAheadOfTheFirstByte(t *testing.T) {
	for far := 1; far <= api.MaxWindow; far += 1 + far/9 {
		text := farText()[:far]
		packed := func(text string) string {
			p := &packer{}
			p.stored(false, text)
			c := p.fixed(true)
			c.copyOf(4, far)
			c.end()
			return p.packed()
		}
		puts(t, fmt.Sprintf("%d back of %d bytes", far, far), packed(text), api.MaxWindow, text+(text + text + text + text)[:4])
		isNone(t, fmt.Sprintf("%d back of %d bytes", far, far-1), packed(text[:far-1]), api.MaxWindow, api.MaxOut)
	}
	isNone(t, "a copy ahead of all bytes", fixedBlock(func(c *coded) { c.copyOf(3, 1); c.end() }), api.MaxWindow, api.MaxOut)
}

// The last byte that a window has is still there after it was gone round often.
func TestWindowsOfAllSizes(t *testing.T) {
	for _, window := range []int{1, 2, 3, 7, 255, 256, 257, 32767, 32768} {
		first := farText()[:window]
		p := &packer{}
		p.stored(false, first)
		c := p.fixed(true)
		want := []byte(first)
		for i := range 5 + 3*window/100 {
			length := 3 + i%256
			c.copyOf(length, window)
			for range length {
				want = append(want, want[len(want)-window])
			}
		}
		c.copyOf(100, max(1, window/2))
		for range 100 {
			want = append(want, want[len(want)-max(1, window/2)])
		}
		c.end()
		puts(t, fmt.Sprintf("window %d", window), p.packed(), window, string(want))
		if window > 1 {
			isNone(t, fmt.Sprintf("window %d, less one", window), p.packed(), window-1, api.MaxOut)
		}
	}
}

// mutated changes a few bits of packed bytes, or cuts them, or adds to them.
func mutated(r *rand.Rand, packed string) string {
	b := []byte(packed)
	for range 1 + r.Intn(4) {
		switch r.Intn(8) {
		case 0:
			b = b[:r.Intn(len(b)+1)]
		case 1:
			b = append(b, byte(r.Intn(256)))
		default:
			if len(b) > 0 {
				// Mostly at the front, where the tables of codes are.
				at := r.Intn(1 + r.Intn(len(b)))
				b[at] ^= 1 << r.Intn(8)
			}
		}
	}
	return string(b)
}

// manyPacked gives right and wrong packed bytes, the same ones each time.
func manyPacked(count int) []string {
	r := rand.New(rand.NewSource(6))
	var packed []string
	for _, c := range ordinary() {
		packed = append(packed, c.packed)
	}
	for k := range count {
		b := make([]byte, r.Intn(60))
		for i := range b {
			b[i] = byte(r.Intn(1 + k%7*40))
			if i > 5 && r.Intn(3) > 0 {
				b[i] = b[i-1-r.Intn(5)]
			}
		}
		switch k % 4 {
		case 0:
			packed = append(packed, string(b))
		case 1:
			packed = append(packed, randomOwn(r))
		case 2:
			packed = append(packed, mutated(r, randomOwn(r)))
		default:
			packed = append(packed, mutated(r, pack(string(b), []int{0, 1, 6, 9, -2}[r.Intn(5)])))
		}
	}
	return packed
}

// randomOwn gives a block of sort 2 with lengths that are often right, and
// symbols by them.
func randomOwn(r *rand.Rand) string {
	literals, distances := randomLengths(r, 257+r.Intn(29)), randomLengths(r, 1+r.Intn(30))
	if literals[256] == 0 && r.Intn(9) > 0 {
		other := slices.IndexFunc(literals, func(length int) bool { return length > 0 })
		if other >= 0 {
			literals[256], literals[other] = literals[other], 0
		}
	}
	return ownBlock(literals, distances, func(c *coded) {
		for range r.Intn(40) {
			symbol := r.Intn(len(literals))
			if c.literals[symbol] == "" || symbol == 256 {
				continue
			}
			c.code(c.literals[symbol])
			if symbol > 256 {
				c.number(r.Intn(2), lengthsOfDoc[symbol-257].bits)
				far := r.Intn(1 + r.Intn(len(distances)))
				c.code(c.distances[far])
				c.number(0, distancesOfDoc[far].bits)
			}
		}
		c.end()
	})
}

// randomLengths parts codes until there are a few; sometimes it spoils them.
func randomLengths(r *rand.Rand, count int) []int {
	lengths := make([]int, count)
	places := r.Perm(count)
	if r.Intn(6) == 0 {
		lengths[places[0]] = r.Intn(3)
		return lengths
	}
	if count < 2 {
		return lengths
	}
	lengths[places[0]], lengths[places[1]] = 1, 1
	for k := 2; k < count && k < 2+r.Intn(200); k++ {
		from := places[r.Intn(k)]
		if lengths[from] == 15 {
			continue
		}
		lengths[from]++
		lengths[places[k]] = lengths[from]
	}
	if r.Intn(5) == 0 {
		lengths[places[0]] = r.Intn(16)
	}
	return lengths
}

func TestInflateIsAsTheDocumentWordsIt(t *testing.T) {
	right := 0
	for i, packed := range manyPacked(6000) {
		window, most := []int{1, 5, 300, 32768}[i%4], []int{10, 100, 2000, 16777216}[i/4%4]
		if i%3 == 0 {
			window, most = api.MaxWindow, api.MaxOut
		}
		wantOut, wantTaken, ok := inflateByWords(packed, window, most)
		want := api.OK
		if !ok {
			want = api.ErrMalformed
		} else {
			right++
		}
		out, taken, e := Inflate(packed, window, most)
		if out != wantOut || taken != wantTaken || e != want {
			t.Fatalf("P5: window %d, most %d: %d bytes, %d, %d, want %d bytes, %d, %d: %x", window, most, len(out), taken, e, len(wantOut), wantTaken, want, packed)
		}
	}
	if right < 1000 {
		t.Errorf("only %d of the texts were right ones", right)
	}
}

func TestInflateOfTextsByTheLibrary(t *testing.T) {
	r := rand.New(rand.NewSource(7))
	for k := range 60 {
		b := make([]byte, r.Intn(200000))
		for i := range b {
			b[i] = byte(r.Intn(1 + k%7*40))
			if far := 1 + r.Intn(1+r.Intn(40000)); far <= i && r.Intn(4) > 0 {
				b[i] = b[i-far]
			}
		}
		puts(t, fmt.Sprintf("%d bytes", len(b)), pack(string(b), []int{0, 1, 6, 9, -2}[k%5]), api.MaxWindow, string(b))
	}
}
