package vellum

import (
	"bytes"
	"compress/zlib"
	"hash/crc32"
	"math/rand"
	"strings"
	"sync"

	"vellum/api"
)

// This file writes pictures: of a sketch come the bytes of a picture as well as
// the image that must be read out of them.

const begin = "\x89PNG\r\n\x1a\n"

func four(n int) string {
	return string([]byte{byte(n >> 24), byte(n >> 16), byte(n >> 8), byte(n)})
}

// piece is a chunk: its type and its data.
type piece struct {
	name, data string
}

// bytes writes a chunk with its right sum.
func (p piece) bytes() string {
	return four(len(p.data)) + p.name + p.data + four(int(crc32.ChecksumIEEE([]byte(p.name+p.data))))
}

// chunk writes a chunk with its right sum.
func chunk(name, data string) string { return piece{name, data}.bytes() }

// whole writes the eight bytes and chunks.
func whole(pieces ...piece) string {
	var out strings.Builder
	out.WriteString(begin)
	for _, p := range pieces {
		out.WriteString(p.bytes())
	}
	return out.String()
}

// wrapAt wraps bytes into a wrapped row, packed more or less.
func wrapAt(level int, s string) string {
	var out bytes.Buffer
	w, err := zlib.NewWriterLevel(&out, level)
	if err != nil {
		panic(err)
	}
	w.Write([]byte(s))
	w.Close()
	return out.String()
}

// A writer takes much memory, so that those of most pictures are used again.
var writers = sync.Pool{New: func() any { return zlib.NewWriter(nil) }}

func wrap(s string) string {
	var out bytes.Buffer
	w := writers.Get().(*zlib.Writer)
	defer writers.Put(w)
	w.Reset(&out)
	w.Write([]byte(s))
	w.Close()
	return out.String()
}

func headOf(width, height, depth, kind, interlaced int) piece {
	return piece{"IHDR", four(width) + four(height) + string([]byte{byte(depth), byte(kind), 0, 0, byte(interlaced)})}
}

func idat(rows string) piece { return piece{"IDAT", wrap(rows)} }

var iend = piece{"IEND", ""}

// sketch is a picture that is not written yet.
type sketch struct {
	width, height int
	depth, kind   int
	interlaced    bool
	samples       [][]int // of each pixel, row by row
	entries       string  // the data of PLTE, if there is one
	cover         string  // the data of tRNS, if there is one
	filters       []byte  // those of the rows, again and again
	spare         int     // the bits behind the samples of a row
}

var samplesOf = map[int]int{0: 1, 2: 3, 3: 1, 4: 2, 6: 4}

var depthsOf = map[int][]int{0: {1, 2, 4, 8, 16}, 2: {8, 16}, 3: {1, 2, 4, 8}, 4: {8, 16}, 6: {8, 16}}

var kinds = []int{0, 2, 3, 4, 6}

// randomSketch has samples of all values that there may be.
func randomSketch(r *rand.Rand, kind, depth, width, height int, interlaced bool) sketch {
	s := sketch{width: width, height: height, depth: depth, kind: kind, interlaced: interlaced, filters: []byte{0}, spare: r.Intn(256)}
	below := 1 << depth
	if kind == 3 {
		below = 1 + r.Intn(below)
		s.entries = randomText(r, 3*below)
	}
	for range width * height {
		pixel := make([]int, samplesOf[kind])
		for i := range pixel {
			pixel[i] = r.Intn(below)
		}
		s.samples = append(s.samples, pixel)
	}
	return s
}

func randomText(r *rand.Rand, size int) string {
	b := make([]byte, size)
	r.Read(b)
	return string(b)
}

// clearLike lays a tRNS on a sketch: that of one of its pixels, or of its entries.
func (s *sketch) clearLike(r *rand.Rand) {
	if s.kind == 3 {
		s.cover = randomText(r, 1+r.Intn(len(s.entries)/3))
		return
	}
	for _, sample := range s.samples[r.Intn(len(s.samples))] {
		s.cover += string([]byte{byte(sample >> 8), byte(sample)})
	}
}

func (s *sketch) head() piece {
	interlaced := 0
	if s.interlaced {
		interlaced = 1
	}
	return headOf(s.width, s.height, s.depth, s.kind, interlaced)
}

// ahead has the chunks ahead of the rows.
func (s *sketch) ahead() []piece {
	pieces := []piece{s.head()}
	if s.entries != "" {
		pieces = append(pieces, piece{"PLTE", s.entries})
	}
	if s.cover != "" {
		pieces = append(pieces, piece{"tRNS", s.cover})
	}
	return pieces
}

func (s *sketch) pieces() []piece {
	return append(s.ahead(), idat(s.rows()), iend)
}

func (s *sketch) bytes() string { return whole(s.pieces()...) }

// steps are, for the rows of each small picture, the first x and its step, the
// first y and its step.
func (s *sketch) steps() [][4]int {
	if !s.interlaced {
		return [][4]int{{0, 1, 0, 1}}
	}
	return [][4]int{{0, 8, 0, 8}, {4, 8, 0, 8}, {0, 4, 4, 8}, {2, 4, 0, 4}, {0, 2, 2, 4}, {1, 2, 0, 2}, {0, 1, 1, 2}}
}

// rows writes all rows with their filters.
func (s *sketch) rows() string {
	var out strings.Builder
	count := 0
	for _, at := range s.steps() {
		var above []byte
		for y := at[2]; y < s.height; y += at[3] {
			row := s.row(at, y)
			if len(row) == 0 {
				break
			}
			filter := s.filters[count%len(s.filters)]
			out.WriteByte(filter)
			out.WriteString(s.filtered(filter, row, above))
			above = row
			count++
		}
	}
	return out.String()
}

// row writes the samples of a row, as bits, filled up to whole bytes.
func (s *sketch) row(at [4]int, y int) []byte {
	var bits []byte
	for x := at[0]; x < s.width; x += at[1] {
		for _, sample := range s.samples[y*s.width+x] {
			for k := s.depth - 1; k >= 0; k-- {
				bits = append(bits, byte(sample>>k&1))
			}
		}
	}
	for len(bits)%8 != 0 {
		bits = append(bits, byte(s.spare>>(len(bits)%8)&1))
	}
	row := make([]byte, len(bits)/8)
	for i, bit := range bits {
		row[i/8] |= bit << (7 - i%8)
	}
	return row
}

// filtered takes away from each byte of a row what its filter will add.
func (s *sketch) filtered(filter byte, row, above []byte) string {
	d := max(1, s.depth*samplesOf[s.kind]/8)
	at := func(bytes []byte, i int) int {
		if i < 0 || i >= len(bytes) {
			return 0
		}
		return int(bytes[i])
	}
	out := make([]byte, len(row))
	for i := range row {
		l, a, c := at(row, i-d), at(above, i), at(above, i-d)
		add := 0
		switch filter {
		case 1:
			add = l
		case 2:
			add = a
		case 3:
			add = (l + a) / 2
		case 4:
			add = nearestByWords(l, a, c)
		}
		out[i] = row[i] - byte(add)
	}
	return string(out)
}

// nearestByWords is the document's wording of filter 4.
func nearestByWords(l, a, c int) int {
	far := func(n int) int {
		if d := l + a - c - n; d < 0 {
			return -d
		} else {
			return d
		}
	}
	if far(l) <= far(a) && far(l) <= far(c) {
		return l
	}
	if far(a) <= far(c) {
		return a
	}
	return c
}

// image is what must be read out of the bytes of a sketch.
func (s *sketch) image() api.Image {
	img := api.Image{Width: s.width, Height: s.height}
	for _, samples := range s.samples {
		img.Pix = append(img.Pix, s.pixel(samples)...)
	}
	return img
}

func (s *sketch) pixel(samples []int) []uint16 {
	whole := func(sample, bits int) uint16 { return uint16(sample * 65535 / (1<<bits - 1)) }
	if s.kind == 3 {
		index := samples[0]
		pixel := []uint16{0, 0, 0, 65535}
		for i := range 3 {
			pixel[i] = whole(int(s.entries[3*index+i]), 8)
		}
		if index < len(s.cover) {
			pixel[3] = whole(int(s.cover[index]), 8)
		}
		return pixel
	}
	var wide []uint16
	same := s.cover != ""
	for i, sample := range samples {
		wide = append(wide, whole(sample, s.depth))
		same = same && int(s.cover[2*i])*256+int(s.cover[2*i+1]) == sample
	}
	if len(wide) < 3 {
		wide = append([]uint16{wide[0], wide[0]}, wide...)
	}
	if len(wide) == 3 {
		wide = append(wide, 65535)
	}
	if same {
		wide[3] = 0
	}
	return wide
}
