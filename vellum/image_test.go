package vellum

import (
	"bytes"
	"image"
	"image/color"
	"image/png"
	"math/rand"
	"slices"
	"strings"
	"testing"

	"vellum/api"
)

const (
	most = 1048576
	all  = 65535
)

// see holds what is read out of bytes against an image.
func see(t *testing.T, what, b string, want api.Image) {
	t.Helper()
	got, e := Decode(b, most, nil)
	if e != api.OK || got.Width != want.Width || got.Height != want.Height || !slices.Equal(got.Pix, want.Pix) {
		t.Errorf("P7: %s: error %d, %d times %d, %v; want %d times %d, %v", what, e, got.Width, got.Height, got.Pix, want.Width, want.Height, want.Pix)
	}
}

func pixels(width, height int, pix ...uint16) api.Image {
	return api.Image{Width: width, Height: height, Pix: pix}
}

func TestExamples(t *testing.T) {
	see(t, "grey of 8 bits", whole(headOf(1, 1, 8, 0, 0), idat("\x00\x80"), iend), pixels(1, 1, 32896, 32896, 32896, all))
	see(t, "grey of 1 bit", whole(headOf(1, 1, 1, 0, 0), idat("\x00\x80"), iend), pixels(1, 1, all, all, all, all))
	see(t, "2 times 2, interlaced", whole(headOf(2, 2, 8, 4, 1), idat("\x00\x01\x02"+"\x00\x03\x04"+"\x00\x05\x06\x07\x08"), iend),
		pixels(2, 2, 257, 257, 257, 514, 771, 771, 771, 1028, 1285, 1285, 1285, 1542, 1799, 1799, 1799, 2056))
}

// Written out by hand, byte by byte: no part of it comes of the sketches.
func TestPixelsOfEachKind(t *testing.T) {
	for _, c := range []struct {
		name   string
		pieces []piece
		want   api.Image
	}{
		{"grey of 2 bits", []piece{headOf(4, 1, 2, 0, 0), idat("\x00\x1b")}, pixels(4, 1, 0, 0, 0, all, 21845, 21845, 21845, all, 43690, 43690, 43690, all, all, all, all, all)},
		{"grey of 4 bits", []piece{headOf(2, 1, 4, 0, 0), idat("\x00\x1e")}, pixels(2, 1, 4369, 4369, 4369, all, 61166, 61166, 61166, all)},
		{"grey of 16 bits", []piece{headOf(2, 1, 16, 0, 0), idat("\x00\x00\x01\xff\xfe")}, pixels(2, 1, 1, 1, 1, all, 65534, 65534, 65534, all)},
		{"grey of 1 bit, clear 0", []piece{headOf(2, 1, 1, 0, 0), {"tRNS", "\x00\x00"}, idat("\x00\x7f")}, pixels(2, 1, 0, 0, 0, 0, all, all, all, all)},
		{"grey of 8 bits, clear 255", []piece{headOf(2, 1, 8, 0, 0), {"tRNS", "\x00\xff"}, idat("\x00\xff\xfe")}, pixels(2, 1, all, all, all, 0, 65278, 65278, 65278, all)},
		{"grey of 16 bits, clear 65535", []piece{headOf(2, 1, 16, 0, 0), {"tRNS", "\xff\xff"}, idat("\x00\xff\xff\xfe\xff")}, pixels(2, 1, all, all, all, 0, 65279, 65279, 65279, all)},
		{"colours of 8 bits", []piece{headOf(1, 1, 8, 2, 0), idat("\x00\x00\x01\xff")}, pixels(1, 1, 0, 257, all, all)},
		{"colours of 8 bits, clear", []piece{headOf(4, 1, 8, 2, 0), {"tRNS", "\x00\x01\x00\x02\x00\x03"}, idat("\x00\x01\x02\x03\x01\x02\x04\x01\x03\x03\x02\x02\x03")},
			pixels(4, 1, 257, 514, 771, 0, 257, 514, 1028, all, 257, 771, 771, all, 514, 514, 771, all)},
		{"colours of 16 bits", []piece{headOf(1, 1, 16, 2, 0), idat("\x00\x01\x00\x00\x01\xff\xff")}, pixels(1, 1, 256, 1, all, all)},
		{"indices of 1 bit", []piece{headOf(2, 1, 1, 3, 0), {"PLTE", "\x01\x02\x03\xff\xfe\xfd"}, idat("\x00\x40")}, pixels(2, 1, 257, 514, 771, all, all, 65278, 65021, all)},
		{"indices of 4 bits, some clear", []piece{headOf(3, 1, 4, 3, 0), {"PLTE", "\x01\x02\x03\x04\x05\x06\x07\x08\x09"}, {"tRNS", "\x00\x7f"}, idat("\x00\x21\x0f")},
			pixels(3, 1, 1799, 2056, 2313, all, 1028, 1285, 1542, 32639, 257, 514, 771, 0)},
		{"grey and cover of 16 bits", []piece{headOf(1, 1, 16, 4, 0), idat("\x00\x12\x34\x56\x78")}, pixels(1, 1, 0x1234, 0x1234, 0x1234, 0x5678)},
		{"colours and cover of 8 bits", []piece{headOf(1, 1, 8, 6, 0), idat("\x00\x01\x02\x03\x00")}, pixels(1, 1, 257, 514, 771, 0)},
	} {
		see(t, c.name, whole(append(c.pieces, iend)...), c.want)
	}
}

// Of grey, 8 bits: the bytes of rows are their pixels.
func TestFiltersByHand(t *testing.T) {
	grey := func(width int, values ...int) api.Image {
		img := api.Image{Width: width, Height: len(values) / width}
		for _, v := range values {
			img.Pix = append(img.Pix, uint16(257*v), uint16(257*v), uint16(257*v), all)
		}
		return img
	}
	for _, c := range []struct {
		name, rows string
		want       api.Image
	}{
		{"none", "\x00\x01\x02\x03", grey(3, 1, 2, 3)},
		{"left", "\x01\xff\x02\xff", grey(3, 255, 1, 0)},
		{"above, first row", "\x02\x05\x06\x07", grey(3, 5, 6, 7)},
		{"half, first row", "\x03\x05\x06\x07", grey(3, 5, 8, 11)},
		{"nearest, first row", "\x04\x05\x06\xff", grey(3, 5, 11, 10)},
		{"above", "\x00\x01\x02\xff\x02\x01\xff\x01", grey(3, 1, 2, 255, 2, 1, 0)},
		{"half, of 510 and of 255", "\x00\xff\xff\x00\x03\x80\x00\x01", grey(3, 255, 255, 0, 255, 255, 128)},
		// The first byte of a row has 0 to its left and above to its left: A.
		// Then L 11, A 0, C 10: 1, from which they are 10, 1 and 9 away: A.
		{"nearest: above at the left edge", "\x00\x0a\x00\x00\x04\x01\x00\x00", grey(3, 10, 0, 0, 11, 0, 0)},
		// L 20, A 5, C 10: 15: 5, 10 and 5 away: L. L 20, A 0, C 5: 15: 5, 15 and 10: L.
		{"nearest: left, as near as the corner", "\x00\x0a\x05\x00\x04\x0a\x00\x00", grey(3, 10, 5, 0, 20, 20, 20)},
		// L 7, A 16, C 10: 13: 6, 3 and 3 away: A. L 16, A 0, C 16: 0: A.
		{"nearest: above, as near as the corner", "\x00\x0a\x10\x00\x04\xfd\x00\x00", grey(3, 10, 16, 0, 7, 16, 0)},
		// L 10, A 20, C 15: 15: C. L 15, A 0, C 20: -5: 20, 5 and 25 away: A.
		{"nearest: corner", "\x00\x0f\x14\x00\x04\xfb\x00\x00", grey(3, 15, 20, 0, 10, 15, 0)},
		// L 9, A 8, C 20: -3: from L 12, from A 11, from C 23: A.
		{"nearest: above", "\x00\x14\x08\x00\x04\xf5\x00\x00", grey(3, 20, 8, 0, 9, 8, 0)},
	} {
		see(t, c.name, whole(headOf(3, c.want.Height, 8, 0, 0), idat(c.rows), iend), c.want)
	}
}

// sides are widths and heights, also such that some small pictures have no pixels.
var sides = [][2]int{{1, 1}, {2, 1}, {1, 2}, {2, 2}, {3, 1}, {1, 3}, {3, 3}, {4, 4}, {5, 1}, {1, 5}, {5, 3}, {3, 5}, {5, 5}, {6, 2}, {2, 7}, {7, 7}, {8, 8}, {9, 1}, {1, 9}, {9, 9}, {10, 6}, {17, 3}, {3, 17}, {19, 20}}

// eachSketch gives pictures of each kind, depth and size, interlaced and not.
func eachSketch(r *rand.Rand, each func(s sketch)) {
	for _, kind := range kinds {
		for _, depth := range depthsOf[kind] {
			for _, side := range sides {
				for _, interlaced := range []bool{false, true} {
					each(randomSketch(r, kind, depth, side[0], side[1], interlaced))
				}
			}
		}
	}
}

func TestEachKindDepthSizeAndFilter(t *testing.T) {
	r := rand.New(rand.NewSource(7))
	eachSketch(r, func(s sketch) {
		for _, filters := range []string{"\x00", "\x01", "\x02", "\x03", "\x04", "\x00\x01\x02\x03\x04", "\x04\x03\x01\x02", "\x00\x04", "\x00\x03\x02"} {
			s.filters = []byte(filters)
			see(t, "a picture by the filters "+filters, s.bytes(), s.image())
		}
	})
}

// Samples that are alike show which of L, A and C is taken where two are as near.
func TestFiltersOfSamplesThatAreAlike(t *testing.T) {
	r := rand.New(rand.NewSource(17))
	for range 300 {
		s := randomSketch(r, []int{0, 2, 4, 6}[r.Intn(4)], 8, 1+r.Intn(8), 1+r.Intn(8), r.Intn(2) == 0)
		for _, pixel := range s.samples {
			for i := range pixel {
				pixel[i] = pixel[i]%4 + 126*(pixel[i]/128)
			}
		}
		s.filters = []byte{byte(r.Intn(5)), 4, byte(r.Intn(5))}
		see(t, "a picture of alike samples", s.bytes(), s.image())
	}
}

func TestClearPixels(t *testing.T) {
	r := rand.New(rand.NewSource(27))
	eachSketch(r, func(s sketch) {
		if s.kind > 3 {
			return
		}
		s.clearLike(r)
		s.filters = []byte{byte(r.Intn(5))}
		see(t, "a picture with a tRNS", s.bytes(), s.image())
	})
}

// Fewer and fewer bytes of tRNS, down to one, up to as many as there are entries.
func TestCoverOfEntries(t *testing.T) {
	r := rand.New(rand.NewSource(37))
	s := randomSketch(r, 3, 4, 16, 2, false)
	s.entries = randomText(r, 48)
	for i := range s.samples {
		s.samples[i] = []int{i % 16}
	}
	for n := 1; n <= 16; n++ {
		s.cover = randomText(r, n)
		see(t, "a picture of 16 entries", s.bytes(), s.image())
	}
}

// As many entries as there may be; and no more than pixels have need of.
func TestCountsOfEntries(t *testing.T) {
	for depth, most := range map[int]int{1: 2, 2: 4, 4: 16, 8: 256} {
		for _, count := range []int{1, 2, most - 1, most} {
			s := sketch{width: 3, height: 1, depth: depth, kind: 3, filters: []byte{0}, spare: 255, samples: [][]int{{0}, {count - 1}, {0}}, entries: strings.Repeat("abc", count)}
			see(t, "a picture with entries", s.bytes(), s.image())
		}
	}
	// Kinds of colours may have entries too, which say nothing.
	for _, kind := range []int{2, 6} {
		for _, count := range []int{1, 2, 256} {
			s := randomSketch(rand.New(rand.NewSource(1)), kind, 8, 2, 2, false)
			s.entries = strings.Repeat("abc", count)
			see(t, "a picture with entries beside its colours", s.bytes(), s.image())
		}
	}
	// And a tRNS behind them.
	s := randomSketch(rand.New(rand.NewSource(2)), 2, 8, 2, 2, false)
	s.entries = "abc"
	s.clearLike(rand.New(rand.NewSource(3)))
	see(t, "a picture with entries and a tRNS", s.bytes(), s.image())
}

// Whatever bits fill a row's last byte up say nothing, not even as an index.
func TestBitsBehindARow(t *testing.T) {
	r := rand.New(rand.NewSource(47))
	for _, kind := range []int{0, 3} {
		for _, depth := range []int{1, 2, 4} {
			for width := 1; width < 10; width++ {
				s := randomSketch(r, kind, depth, width, 3, width%2 == 0)
				if kind == 3 {
					s.entries = "abc"
					for _, pixel := range s.samples {
						pixel[0] = 0
					}
				}
				for _, spare := range []int{0, 255, 0xaa, 0x55} {
					s.spare = spare
					s.filters = []byte{byte(r.Intn(5))}
					see(t, "a picture with bits behind its rows", s.bytes(), s.image())
				}
			}
		}
	}
}

// However the rows are packed: in blocks of all sorts.
func TestRowsPackedInAnyWay(t *testing.T) {
	r := rand.New(rand.NewSource(57))
	s := randomSketch(r, 6, 8, 40, 30, true)
	for i := range 600 {
		s.samples[i] = []int{1, 2, 3, i % 5}
	}
	for _, level := range []int{-2, -1, 0, 1, 9} {
		b := whole(append(s.ahead(), piece{"IDAT", wrapAt(level, s.rows())}, iend)...)
		see(t, "a picture", b, s.image())
	}
}

// parted gives chunks of the rows: data cut behind so many bytes each.
func parted(data string, cuts ...int) []piece {
	var pieces []piece
	for _, cut := range cuts {
		cut = min(cut, len(data))
		pieces = append(pieces, piece{"IDAT", data[:cut]})
		data = data[cut:]
	}
	return append(pieces, piece{"IDAT", data})
}

func TestRowsPartedAnywhere(t *testing.T) {
	r := rand.New(rand.NewSource(67))
	s := randomSketch(r, 2, 8, 5, 3, true)
	s.filters = []byte{0, 1, 2, 3, 4}
	data := wrap(s.rows())
	try := func(cuts ...int) {
		t.Helper()
		pieces := append(append(s.ahead(), parted(data, cuts...)...), iend)
		see(t, "P8: a picture whose rows are parted", whole(pieces...), s.image())
	}
	for i := range len(data) + 1 {
		try(i)
		try(i, 0)
		try(0, i, 0, 0, 1, 0)
		try(0, 0, i, len(data))
	}
	ones := slices.Repeat([]int{1, 0}, len(data))
	try(ones...)
	for range 200 {
		cuts := make([]int, r.Intn(12))
		for i := range cuts {
			cuts[i] = r.Intn(20)
		}
		try(cuts...)
	}
}

// silent are chunks that say nothing, some with data that look like others.
var silent = []piece{{"teXt", "say"}, {"abCd", ""}, {"iDAT", wrap("\x00")}, {"pLTE", "abc"}, {"iEND", ""}, {"iHDR", "x"}, {"zZZz", strings.Repeat("\xff", 3000)}, {"tRNs", "\x00"}, {"gAMA", "\x00\x00\x00\x00"}, {"tEXt", begin}, {"aAAA", chunk("IEND", "")}}

func TestChunksThatSayNothing(t *testing.T) {
	r := rand.New(rand.NewSource(77))
	for _, kind := range kinds {
		s := randomSketch(r, kind, 8, 3, 3, kind%4 == 0)
		if kind < 4 {
			s.clearLike(r)
		}
		pieces := s.pieces()
		for at := 1; at < len(pieces); at++ {
			for _, quiet := range silent {
				with := slices.Insert(slices.Clone(pieces), at, quiet, silent[r.Intn(len(silent))])
				see(t, "P8: a picture with the chunk "+quiet.name, whole(with...), s.image())
			}
		}
		var everywhere []piece
		for i, p := range pieces {
			if i > 0 {
				everywhere = append(everywhere, silent...)
			}
			everywhere = append(everywhere, p)
		}
		see(t, "P8: a picture with silent chunks everywhere", whole(everywhere...), s.image())
	}
}

// Every picture that another program reads too: it must see the same.
func TestAnotherProgramReadsTheSame(t *testing.T) {
	r := rand.New(rand.NewSource(87))
	eachSketch(r, func(s sketch) {
		if s.kind < 4 && s.width > 2 {
			s.clearLike(r)
		}
		s.filters = []byte{0, 1, 2, 3, 4}
		b := s.bytes()
		theirs, err := png.Decode(bytes.NewReader([]byte(b)))
		if err != nil {
			t.Fatalf("kind %d, depth %d: %v", s.kind, s.depth, err)
		}
		ours, e := Decode(b, most, nil)
		if e != api.OK || !samePicture(ours, theirs) {
			t.Errorf("P7: kind %d, depth %d, %d times %d: error %d, or another picture", s.kind, s.depth, s.width, s.height, e)
		}
	})
}

// samePicture holds colours against each other only where a pixel covers wholly,
// since the other program does not keep them elsewhere.
func samePicture(ours api.Image, theirs image.Image) bool {
	for y := range ours.Height {
		for x := range ours.Width {
			c := color.NRGBA64Model.Convert(theirs.At(x, y)).(color.NRGBA64)
			p := ours.Pix[4*(y*ours.Width+x):]
			if p[3] != c.A || p[3] == all && (p[0] != c.R || p[1] != c.G || p[2] != c.B) {
				return false
			}
		}
	}
	return true
}
