package vellum

import (
	"errors"
	"hash/crc32"
	"slices"
	"strings"

	"vellum/api"
	"vellum/deflate"
)

// This file reads pictures by the document's words: all chunks first, then each
// rule for itself, with rows as lists of samples. The program is held against it.

var errWords = errors.New("not as the document says")

// must stops the reading where the document says that something must be.
func must(what bool) {
	if !what {
		panic(errWords)
	}
}

// byWords is what Decode must answer.
func byWords(b string, limit int) (img api.Image, e api.Errno) {
	if limit < 1 || limit > 1048576 {
		return api.Image{}, api.ErrLimit
	}
	defer func() {
		if wrong := recover(); wrong != nil {
			if wrong != errWords {
				panic(wrong)
			}
			img, e = api.Image{}, api.ErrMalformed
		}
	}()
	must(strings.HasPrefix(b, begin))
	first, rest := cutChunk(b[8:])
	s := headByWords(first)
	if s.width > limit || s.height > limit || s.width*s.height > limit {
		return api.Image{}, api.ErrTooLarge
	}
	pieces := []piece{first}
	for rest != "" {
		var next piece
		next, rest = cutChunk(rest)
		pieces = append(pieces, next)
	}
	checkOrder(pieces)
	checkColours(&s, pieces)
	readSamples(&s, dataOf(pieces, "IDAT"))
	return s.image(), api.OK
}

func numberOf(s string) int {
	n := 0
	for i := range len(s) {
		n = n*256 + int(s[i])
	}
	return n
}

// cutChunk cuts the first chunk off.
func cutChunk(b string) (piece, string) {
	must(len(b) >= 12)
	size := numberOf(b[:4])
	must(size <= 2147483647 && size <= len(b)-12)
	p := piece{b[4:8], b[8 : 8+size]}
	must(numberOf(b[8+size:12+size]) == int(crc32.ChecksumIEEE([]byte(p.name+p.data))))
	for i := range 4 {
		must(strings.ContainsRune("ABCDEFGHIJKLMNOPQRSTUVWXYZabcdefghijklmnopqrstuvwxyz", rune(p.name[i])))
	}
	must(p.name[2:3] == strings.ToUpper(p.name[2:3]))
	return p, b[12+size:]
}

func headByWords(p piece) sketch {
	must(p.name == "IHDR" && len(p.data) == 13)
	s := sketch{width: numberOf(p.data[:4]), height: numberOf(p.data[4:8]), depth: int(p.data[8]), kind: int(p.data[9]), interlaced: p.data[12] == 1}
	must(1 <= s.width && s.width <= 2147483647 && 1 <= s.height && s.height <= 2147483647)
	must(slices.Contains(depthsOf[s.kind], s.depth))
	must(p.data[10] == 0 && p.data[11] == 0 && p.data[12] <= 1)
	return s
}

// placesOf says where chunks of a type stand.
func placesOf(pieces []piece, name string) []int {
	var places []int
	for i, p := range pieces {
		if p.name == name {
			places = append(places, i)
		}
	}
	return places
}

func dataOf(pieces []piece, name string) string {
	var data strings.Builder
	for _, i := range placesOf(pieces, name) {
		data.WriteString(pieces[i].data)
	}
	return data.String()
}

func checkOrder(pieces []piece) {
	must(slices.Equal(placesOf(pieces, "IHDR"), []int{0}))
	must(slices.Equal(placesOf(pieces, "IEND"), []int{len(pieces) - 1}))
	must(pieces[len(pieces)-1].data == "")
	rows, plte, trns := placesOf(pieces, "IDAT"), placesOf(pieces, "PLTE"), placesOf(pieces, "tRNS")
	must(len(rows) >= 1 && rows[len(rows)-1]-rows[0] == len(rows)-1)
	must(len(plte) <= 1 && len(trns) <= 1)
	for _, place := range append(slices.Clone(plte), trns...) {
		must(place < rows[0])
	}
	if len(plte) == 1 && len(trns) == 1 {
		must(plte[0] < trns[0])
	}
	for _, p := range pieces {
		known := slices.Contains([]string{"IHDR", "PLTE", "IDAT", "IEND"}, p.name)
		must(known || p.name[0] >= 'a')
	}
}

func checkColours(s *sketch, pieces []piece) {
	hasEntries, hasCover := len(placesOf(pieces, "PLTE")) > 0, len(placesOf(pieces, "tRNS")) > 0
	s.entries, s.cover = dataOf(pieces, "PLTE"), dataOf(pieces, "tRNS")
	if hasEntries {
		must(s.kind != 0 && s.kind != 4)
		must(len(s.entries) >= 3 && len(s.entries) <= 768 && len(s.entries)%3 == 0)
	}
	if s.kind == 3 {
		must(hasEntries && len(s.entries)/3 <= 1<<s.depth)
	}
	if !hasCover {
		return
	}
	switch s.kind {
	case 0, 2:
		must(len(s.cover) == 2*samplesOf[s.kind])
		for i := 0; i < len(s.cover); i += 2 {
			must(numberOf(s.cover[i:i+2]) < 1<<s.depth)
		}
	case 3:
		must(len(s.cover) >= 1 && len(s.cover) <= len(s.entries)/3)
	default:
		must(false)
	}
}

// readSamples reads the samples of all pixels out of the packed rows.
func readSamples(s *sketch, packed string) {
	bits := s.depth * samplesOf[s.kind]
	size := 0
	for _, at := range s.steps() {
		if width, height := countSteps(at[0], at[1], s.width), countSteps(at[2], at[3], s.height); width > 0 {
			size += height * (1 + (width*bits+7)/8)
		}
	}
	out, e := deflate.Unwrap(packed, size)
	must(e == api.OK)
	s.samples = make([][]int, s.width*s.height)
	for _, at := range s.steps() {
		width := countSteps(at[0], at[1], s.width)
		if width == 0 {
			continue
		}
		above := make([]byte, (width*bits+7)/8)
		for y := at[2]; y < s.height; y += at[3] {
			row := unfiltered(out[0], []byte(out[1:1+len(above)]), above, max(1, bits/8))
			out, above = out[1+len(above):], row
			for i := range width {
				s.samples[y*s.width+at[0]+i*at[1]] = s.samplesAt(row, i*bits)
			}
		}
	}
	must(out == "")
}

func countSteps(first, step, end int) int {
	count := 0
	for at := first; at < end; at += step {
		count++
	}
	return count
}

func unfiltered(filter byte, row, above []byte, d int) []byte {
	must(filter <= 4)
	for i := range row {
		l, a, c := 0, int(above[i]), 0
		if i >= d {
			l, c = int(row[i-d]), int(above[i-d])
		}
		row[i] += byte([]int{0, l, a, (l + a) / 2, nearestByWords(l, a, c)}[filter])
	}
	return row
}

// samplesAt reads the samples of the pixel that begins at a bit of a row.
func (s *sketch) samplesAt(row []byte, bit int) []int {
	samples := make([]int, samplesOf[s.kind])
	for i := range samples {
		for range s.depth {
			samples[i] = 2*samples[i] + int(row[bit/8]>>(7-bit%8)&1)
			bit++
		}
	}
	if s.kind == 3 {
		must(samples[0] < len(s.entries)/3)
	}
	return samples
}
