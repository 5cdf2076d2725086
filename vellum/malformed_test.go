package vellum

import (
	"fmt"
	"math/rand"
	"slices"
	"strings"
	"testing"

	"vellum/api"
)

// fails holds an error against the one that bytes must be answered with; with
// it there is no image.
func fails(t *testing.T, what, b string, limit int, want api.Errno) {
	t.Helper()
	img, e := Decode(b, limit, nil)
	if e != want || img.Width != 0 || img.Height != 0 || img.Pix != nil {
		t.Errorf("P7, P1: %s: error %d, %d times %d, %d numbers; want %d and no image", what, e, img.Width, img.Height, len(img.Pix), want)
	}
}

func malformed(t *testing.T, what string, pieces ...piece) {
	t.Helper()
	fails(t, what, whole(pieces...), most, api.ErrMalformed)
}

// A small picture of grey, which is as it must be.
var (
	greyHead = headOf(1, 1, 8, 0, 0)
	greyRows = idat("\x00\x00")
	greyData = wrap("\x00\x00")
)

// A small picture of indices of 2 bits, with two entries.
var (
	indexHead = headOf(4, 1, 2, 3, 0)
	indexRows = idat("\x00\x11")
	entries   = piece{"PLTE", "abcdef"}
	covers    = piece{"tRNS", "ab"}
)

func TestPicturesOfTheseTestsAreRight(t *testing.T) {
	for i, b := range []string{
		whole(greyHead, greyRows, iend),
		whole(greyHead, piece{"IDAT", greyData}, iend),
		whole(greyHead, piece{"tRNS", "\x00\x00"}, greyRows, iend),
		whole(indexHead, entries, indexRows, iend),
		whole(indexHead, entries, covers, indexRows, iend),
	} {
		if _, e := Decode(b, most, nil); e != api.OK {
			t.Errorf("P7: picture %d: error %d", i, e)
		}
	}
}

func TestEachOfTheFirstEightBytes(t *testing.T) {
	good := whole(greyHead, greyRows, iend)
	for i := range 8 {
		for k := range 256 {
			b := []byte(good)
			if b[i] == byte(k) {
				continue
			}
			b[i] = byte(k)
			fails(t, fmt.Sprintf("byte %d is %d", i, k), string(b), most, api.ErrMalformed)
		}
		fails(t, "a byte is missing", good[:i]+good[i+1:], most, api.ErrMalformed)
		fails(t, "a byte too many", good[:i]+"\x0a"+good[i:], most, api.ErrMalformed)
	}
}

// A picture that ends too early, anywhere; one with bytes behind it; and one of
// which any bit is turned over. (Every bit counts, since rows have none to spare.)
func TestPictureThatEndsTooEarlyOrIsTurned(t *testing.T) {
	r := rand.New(rand.NewSource(6))
	indices := randomSketch(r, 3, 8, 4, 4, true)
	indices.clearLike(r)
	colours := randomSketch(r, 2, 16, 3, 2, false)
	colours.clearLike(r)
	for _, good := range []string{indices.bytes(), colours.bytes(), whole(greyHead, silent[0], greyRows, silent[0], iend)} {
		for n := range len(good) {
			fails(t, fmt.Sprintf("it ends behind %d bytes", n), good[:n], most, api.ErrMalformed)
		}
		for _, more := range []string{"\x00", "x", "\x00\x00\x00\x00", iend.bytes(), silent[0].bytes(), begin} {
			fails(t, "bytes behind the last chunk", good+more, most, api.ErrMalformed)
		}
		for i := range len(good) {
			for k := range 8 {
				b := []byte(good)
				b[i] ^= 1 << k
				// A turned width or height may be too great, but for the CRC sum.
				fails(t, fmt.Sprintf("bit %d of byte %d turned", k, i), string(b), most, api.ErrMalformed)
			}
		}
	}
}

// withSum writes a picture in which a chunk has another sum.
func withSum(at int, change uint32, pieces ...piece) string {
	var out strings.Builder
	out.WriteString(begin)
	for i, p := range pieces {
		b := []byte(p.bytes())
		if i == at {
			for k := range 4 {
				b[len(b)-1-k] ^= byte(change >> (8 * k))
			}
		}
		out.Write(b)
	}
	return out.String()
}

func TestSumsOfChunks(t *testing.T) {
	pieces := []piece{indexHead, silent[0], entries, covers, silent[1], {"IDAT", ""}, indexRows, {"IDAT", ""}, silent[0], iend}
	if _, e := Decode(withSum(0, 0, pieces...), most, nil); e != api.OK {
		t.Fatalf("P7: error %d", e)
	}
	for at, p := range pieces {
		for _, change := range []uint32{1, 1 << 8, 1 << 16, 1 << 24, 1 << 31, 0xffffffff} {
			fails(t, "another sum of the chunk "+p.name, withSum(at, change, pieces...), most, api.ErrMalformed)
		}
	}
}

func TestCountsOfBytes(t *testing.T) {
	ahead := whole(greyHead)
	for _, count := range []string{"\x80\x00\x00\x00", "\xff\xff\xff\xff", "\x7f\xff\xff\xff", "\x00\x00\x00\x04", "\x00\x00\x00\x02"} {
		fails(t, "a count of bytes", ahead+count+silent[0].bytes()[4:]+greyRows.bytes()+iend.bytes(), most, api.ErrMalformed)
		fails(t, "a count of bytes of the first chunk", begin+count+greyHead.bytes()[4:]+greyRows.bytes()+iend.bytes(), most, api.ErrMalformed)
	}
	// 2147483648 bytes less than none, as a number with a sign.
	fails(t, "a count with its highest bit", ahead+"\x80\x00\x00\x00teXt"+four(int(crcOf("teXt")))+greyRows.bytes()+iend.bytes(), most, api.ErrMalformed)
}

func crcOf(s string) uint32 {
	b := chunk(s, "")
	return uint32(b[8])<<24 | uint32(b[9])<<16 | uint32(b[10])<<8 | uint32(b[11])
}

// Every byte at each place of a type: of letters only, the third one a capital,
// those are right whose first one is small.
func TestLettersOfTypes(t *testing.T) {
	for at := range 4 {
		for k := range 256 {
			name := []byte("teXt")
			name[at] = byte(k)
			small := k >= 'a' && k <= 'z'
			capital := k >= 'A' && k <= 'Z'
			right := small || capital
			switch at {
			case 0:
				right = small
			case 2:
				right = capital
			}
			want := api.ErrMalformed
			if right {
				want = api.OK
			}
			for _, b := range []string{
				whole(greyHead, piece{string(name), "say"}, greyRows, iend),
				whole(greyHead, greyRows, piece{string(name), ""}, iend),
			} {
				if _, e := Decode(b, most, nil); e != want {
					t.Errorf("P7: the type %q: error %d, want %d", name, e, want)
				}
			}
		}
	}
}

func TestUnknownCapitals(t *testing.T) {
	for _, name := range []string{"ABCD", "IDAt", "IeND", "PLTe", "TRNS", "IHDr", "IDOT", "QaAq"} {
		unknown := piece{name, "abc"}
		malformed(t, "the chunk "+name+" first", unknown, greyHead, greyRows, iend)
		malformed(t, "the chunk "+name, greyHead, unknown, greyRows, iend)
		malformed(t, "the chunk "+name+" between the rows", greyHead, piece{"IDAT", greyData[:3]}, unknown, piece{"IDAT", greyData[3:]}, iend)
		malformed(t, "the chunk "+name+" behind the rows", greyHead, greyRows, unknown, iend)
		malformed(t, "the chunk "+name+" last", greyHead, greyRows, iend, unknown)
	}
}

func TestOrderOfChunks(t *testing.T) {
	quiet := silent[0]
	half, rest := piece{"IDAT", greyData[:3]}, piece{"IDAT", greyData[3:]}
	clear := piece{"tRNS", "\x00\x00"}
	for _, c := range []struct {
		name   string
		pieces []piece
	}{
		{"no chunk", nil},
		{"only a head", []piece{greyHead}},
		{"no head", []piece{greyRows, iend}},
		{"a silent chunk ahead of the head", []piece{quiet, greyHead, greyRows, iend}},
		{"rows ahead of the head", []piece{greyRows, greyHead, iend}},
		{"a last chunk first", []piece{iend, greyHead, greyRows, iend}},
		{"two heads", []piece{greyHead, greyHead, greyRows, iend}},
		{"a head behind the rows", []piece{greyHead, greyRows, greyHead, iend}},
		{"a head behind a silent chunk", []piece{greyHead, quiet, greyHead, greyRows, iend}},
		{"no rows", []piece{greyHead, iend}},
		{"no rows, but a silent chunk", []piece{greyHead, quiet, iend}},
		{"rows without data", []piece{greyHead, {"IDAT", ""}, iend}},
		{"no last chunk", []piece{greyHead, greyRows}},
		{"no last chunk, but a silent one", []piece{greyHead, greyRows, quiet}},
		{"two last chunks", []piece{greyHead, greyRows, iend, iend}},
		{"a last chunk with data", []piece{greyHead, greyRows, {"IEND", "\x00"}}},
		{"a silent chunk behind the last one", []piece{greyHead, greyRows, iend, quiet}},
		{"rows behind the last chunk", []piece{greyHead, greyRows, iend, greyRows}},
		{"a silent chunk between the rows", []piece{greyHead, half, quiet, rest, iend}},
		{"a tRNS between the rows", []piece{greyHead, half, clear, rest, iend}},
		{"a silent chunk between the rows and a chunk without data", []piece{greyHead, greyRows, quiet, {"IDAT", ""}, iend}},
		{"a chunk without data, a silent chunk, and the rows", []piece{greyHead, {"IDAT", ""}, quiet, greyRows, iend}},
		{"the rows twice", []piece{greyHead, greyRows, greyRows, iend}},
		{"the rows twice, with a silent chunk between", []piece{greyHead, greyRows, quiet, greyRows, iend}},
		{"a byte behind the rows, in another chunk", []piece{greyHead, greyRows, {"IDAT", "\x00"}, iend}},
		{"a last chunk between the rows", []piece{greyHead, half, iend, rest, iend}},
		{"a tRNS behind the rows", []piece{greyHead, greyRows, clear, iend}},
		{"two tRNS", []piece{greyHead, clear, clear, greyRows, iend}},
		{"two tRNS, one behind the rows", []piece{greyHead, clear, greyRows, clear, iend}},
		{"no PLTE", []piece{indexHead, indexRows, iend}},
		{"no PLTE, but a tRNS", []piece{indexHead, covers, indexRows, iend}},
		{"a PLTE behind the rows", []piece{indexHead, indexRows, entries, iend}},
		{"two PLTEs", []piece{indexHead, entries, entries, indexRows, iend}},
		{"two PLTEs, one behind the rows", []piece{indexHead, entries, indexRows, entries, iend}},
		{"a tRNS ahead of a PLTE", []piece{indexHead, covers, entries, indexRows, iend}},
		{"a tRNS of indices behind the rows", []piece{indexHead, entries, indexRows, covers, iend}},
		{"two tRNS of indices", []piece{indexHead, entries, covers, covers, indexRows, iend}},
		{"PLTE, tRNS and PLTE", []piece{indexHead, entries, covers, entries, indexRows, iend}},
		{"a tRNS of colours ahead of a PLTE", []piece{headOf(1, 1, 8, 2, 0), {"tRNS", "\x00\x01\x00\x01\x00\x01"}, entries, idat("\x00\x00\x00\x00"), iend}},
		{"a PLTE of colours behind the rows", []piece{headOf(1, 1, 8, 2, 0), idat("\x00\x00\x00\x00"), entries, iend}},
		{"two PLTEs of colours", []piece{headOf(1, 1, 8, 2, 0), entries, entries, idat("\x00\x00\x00\x00"), iend}},
	} {
		malformed(t, c.name, c.pieces...)
	}
}

// Every value of each byte that says which sort of picture it is.
func TestNumbersOfTheHead(t *testing.T) {
	for at := 8; at < 13; at++ {
		for k := range 256 {
			for _, depth := range []int{1, 2, 4, 8, 16} {
				data := []byte(headOf(1, 1, depth, 0, 0).data)
				data[at] = byte(k)
				want := api.ErrMalformed
				if sortMayBe(data) {
					want = api.ErrTooLarge
				}
				// Too large by the limit 1, if it is right: then nothing else counts.
				data[3] = 2
				fails(t, fmt.Sprintf("the head %x", data), whole(piece{"IHDR", string(data)}), 1, want)
			}
		}
	}
}

func sortMayBe(data []byte) bool {
	return slices.Contains(depthsOf[int(data[9])], int(data[8])) && data[10] == 0 && data[11] == 0 && data[12] <= 1
}

func TestKindsAndDepths(t *testing.T) {
	for kind := range 256 {
		for depth := range 256 {
			want := api.ErrMalformed
			if slices.Contains(depthsOf[kind], depth) {
				want = api.ErrTooLarge
			}
			fails(t, fmt.Sprintf("kind %d, depth %d", kind, depth), whole(headOf(2, 1, depth, kind, 0)), 1, want)
		}
	}
}

func TestSidesOfTheHead(t *testing.T) {
	for _, side := range []int{0, 1 << 31, 1<<31 + 1, 1<<32 - 1} {
		malformed(t, "a width", headOf(side, 1, 8, 0, 0), greyRows, iend)
		malformed(t, "a height", headOf(1, side, 8, 0, 0), greyRows, iend)
		malformed(t, "a width and a height", headOf(side, side, 8, 0, 0), greyRows, iend)
	}
}

func TestSizeOfTheHead(t *testing.T) {
	good := greyHead.data
	for n := range 13 {
		malformed(t, "a short head", piece{"IHDR", good[:n]}, greyRows, iend)
	}
	for _, more := range []string{"\x00", "\x00\x00\x00\x00", good} {
		malformed(t, "a long head", piece{"IHDR", good + more}, greyRows, iend)
	}
}

func TestEntriesThatMayNotBe(t *testing.T) {
	for _, depth := range []int{1, 2, 4, 8} {
		head := headOf(1, 1, depth, 3, 0)
		for _, size := range []int{0, 1, 2, 4, 5, 3<<depth - 1, 3<<depth + 1, 3<<depth + 3, 768 + 3} {
			malformed(t, fmt.Sprintf("depth %d, PLTE of %d bytes", depth, size), head, piece{"PLTE", strings.Repeat("a", size)}, greyRows, iend)
		}
	}
	for _, kind := range []int{2, 6} {
		rows := idat(strings.Repeat("\x00", 1+samplesOf[kind]))
		for _, size := range []int{0, 1, 2, 4, 5, 7, 766, 767, 769, 771, 3000} {
			malformed(t, fmt.Sprintf("kind %d, PLTE of %d bytes", kind, size), headOf(1, 1, 8, kind, 0), piece{"PLTE", strings.Repeat("a", size)}, rows, iend)
		}
	}
	for _, kind := range []int{0, 4} {
		for _, depth := range depthsOf[kind] {
			rows := idat(strings.Repeat("\x00", 1+samplesOf[kind]*max(1, depth/8)))
			malformed(t, "PLTE of grey", headOf(1, 1, depth, kind, 0), piece{"PLTE", "abc"}, rows, iend)
		}
	}
}

func TestCoverThatMayNotBe(t *testing.T) {
	for _, kind := range []int{0, 2} {
		for _, depth := range depthsOf[kind] {
			head, n := headOf(1, 1, depth, kind, 0), samplesOf[kind]
			rows := idat(strings.Repeat("\x00", 1+n*max(1, depth/8)))
			for size := range 10 {
				if size != 2*n {
					malformed(t, "tRNS of another size", head, piece{"tRNS", strings.Repeat("\x00", size)}, rows, iend)
				}
			}
			for i := range n {
				for _, number := range []int{1<<depth - 1, 1 << depth, 1<<depth + 1, 65535} {
					data := []byte(strings.Repeat("\x00", 2*n))
					data[2*i], data[2*i+1] = byte(number>>8), byte(number)
					b := whole(head, piece{"tRNS", string(data)}, rows, iend)
					want := api.OK
					if number&65535 >= 1<<depth {
						want = api.ErrMalformed
					}
					if _, e := Decode(b, most, nil); e != want {
						t.Errorf("P7: kind %d, depth %d, tRNS %x: error %d, want %d", kind, depth, data, e, want)
					}
				}
			}
		}
	}
	for _, n := range []int{1, 2, 3, 4} {
		head := headOf(1, 1, 2, 3, 0)
		malformed(t, "tRNS without bytes", head, piece{"PLTE", strings.Repeat("abc", n)}, piece{"tRNS", ""}, greyRows, iend)
		malformed(t, "tRNS with too many bytes", head, piece{"PLTE", strings.Repeat("abc", n)}, piece{"tRNS", strings.Repeat("a", n+1)}, greyRows, iend)
	}
	for _, kind := range []int{4, 6} {
		for size := range 10 {
			rows := idat(strings.Repeat("\x00", 1+samplesOf[kind]))
			malformed(t, "tRNS of a kind with cover", headOf(1, 1, 8, kind, 0), piece{"tRNS", strings.Repeat("\x00", size)}, rows, iend)
		}
	}
}

func TestRowsThatMayNotBe(t *testing.T) {
	data := func(s string) piece { return piece{"IDAT", s} }
	for _, c := range []struct {
		name string
		rows piece
	}{
		{"no wrapped row", data("rows")},
		{"its first byte", data("\x79" + greyData[1:])},
		{"its second byte", data(greyData[:1] + "\x9d" + greyData[2:])},
		{"its sum", data(greyData[:len(greyData)-1] + "\x77")},
		{"no sum", data(greyData[:len(greyData)-4])},
		{"it ends too early", data(greyData[:len(greyData)-1])},
		{"a byte behind it", data(greyData + "\x00")},
		{"no byte", idat("")},
		{"a byte too few", idat("\x00")},
		{"a byte too many", idat("\x00\x00\x00")},
		{"a row too many", idat("\x00\x00\x00\x00")},
	} {
		malformed(t, c.name, greyHead, c.rows, iend)
	}
}

// Each count of bytes but the right one, for pictures of all sorts.
func TestTooFewOrTooManyBytes(t *testing.T) {
	r := rand.New(rand.NewSource(16))
	for range 60 {
		kind := kinds[r.Intn(5)]
		depths := depthsOf[kind]
		s := randomSketch(r, kind, depths[r.Intn(len(depths))], 1+r.Intn(9), 1+r.Intn(9), r.Intn(2) == 0)
		rows := s.rows()
		for _, n := range []int{0, 1, len(rows) / 2, len(rows) - 2, len(rows) - 1, len(rows) + 1, len(rows) + 2, 2 * len(rows)} {
			if n == len(rows) {
				continue
			}
			pieces := append(s.ahead(), idat(strings.Repeat(rows, 3)[:max(0, n)]), iend)
			malformed(t, fmt.Sprintf("%d bytes in place of %d", n, len(rows)), pieces...)
		}
	}
}

// Every filter above 4, in the first row, in one behind it, and in those of each
// small picture.
func TestFiltersAboveFour(t *testing.T) {
	r := rand.New(rand.NewSource(26))
	for filter := 5; filter < 256; filter++ {
		for _, interlaced := range []bool{false, true} {
			s := randomSketch(r, 0, 8, 8, 8, interlaced)
			for row := range 8 {
				s.filters = slices.Repeat([]byte{0}, 40)
				s.filters[row] = byte(filter)
				malformed(t, fmt.Sprintf("filter %d in row %d", filter, row), s.pieces()...)
			}
		}
	}
}

// An index without an entry, at each place of a picture.
func TestIndicesWithoutEntry(t *testing.T) {
	r := rand.New(rand.NewSource(36))
	for _, depth := range []int{1, 2, 4, 8} {
		for count := 1; count < 1<<depth; count += 1 + depth/8*50 {
			for _, interlaced := range []bool{false, true} {
				s := randomSketch(r, 3, depth, 5, 5, interlaced)
				for i := range s.samples {
					s.samples[i] = []int{r.Intn(count)}
				}
				s.entries = strings.Repeat("abc", count)
				if _, e := Decode(s.bytes(), most, nil); e != api.OK {
					t.Fatalf("P7: depth %d, %d entries: error %d", depth, count, e)
				}
				for i := range s.samples {
					good := s.samples[i]
					s.samples[i] = []int{count + r.Intn(1<<depth-count)}
					malformed(t, fmt.Sprintf("depth %d, %d entries, the index %d", depth, count, s.samples[i][0]), s.pieces()...)
					s.samples[i] = good
				}
			}
		}
	}
}
