package vellum

import (
	"fmt"
	"math/rand"
	"slices"
	"strings"
	"testing"

	"vellum/api"
)

// This file has sources that answer as a script says, and do not fail: P8.

// ones is a script that gives one byte so often, and then answers as said.
func ones(count int, behind ...int) []int {
	return append(slices.Repeat([]int{1}, count), behind...)
}

// zeros is a script that gives no byte so often.
func zeros(count int) []int { return make([]int, count) }

// answers holds what is answered with a script against an image and an error.
func answers(t *testing.T, what, b string, limit int, script []int, want api.Image, wantE api.Errno) {
	t.Helper()
	was := slices.Clone(script)
	got, e := Decode(b, limit, script)
	if e != wantE || !sameImage(got, want) || e != api.OK && got.Pix != nil {
		t.Errorf("P8: %s: error %d, %d times %d, %d numbers; want %d, %d times %d, %d numbers", what, e, got.Width, got.Height, len(got.Pix), wantE, want.Width, want.Height, len(want.Pix))
	}
	if !slices.Equal(script, was) {
		t.Errorf("P2: %s: the script has changed", what)
	}
}

// comes holds that a picture comes out as it does without a script.
func comes(t *testing.T, what, b string, script []int) {
	t.Helper()
	want, _ := byWords(b, most)
	answers(t, what, b, most, script, want, api.OK)
}

// refuses holds that there is an error, and no image.
func refuses(t *testing.T, what, b string, limit int, script []int, want api.Errno) {
	t.Helper()
	answers(t, what, b, limit, script, api.Image{}, want)
}

// patient makes a script that never gives nothing more than 100 times one after
// the other.
func patient(r *rand.Rand, count, below int) []int {
	script := make([]int, count)
	empty := 0
	for i := range script {
		script[i] = r.Intn(below)
		if empty == 100 {
			script[i] = 1
		}
		empty++
		if script[i] > 0 {
			empty = 0
		}
	}
	return script
}

// patientScripts are scripts of all sorts by which all of so many bytes come.
func patientScripts(r *rand.Rand, size int) map[string][]int {
	return map[string][]int{
		"an empty script":               {},
		"a byte at a time":              ones(size),
		"a byte at a time, too short":   ones(size / 2),
		"a byte at a time, too long":    ones(3 * size),
		"all at once":                   {size},
		"more than there are":           {1 << 62, size + 1, 1<<63 - 1},
		"great numbers":                 slices.Repeat([]int{1000000}, size),
		"a few at a time":               patient(r, size, 9),
		"nothing between":               slices.Repeat([]int{0, 1}, size),
		"mostly nothing":                patient(r, 20*size, 2),
		"one or nothing, too short":     patient(r, size/2, 2),
		"100 times nothing first":       zeros(100),
		"100 times nothing everywhere":  slices.Repeat(append(zeros(100), 1), size),
		"100 times nothing ahead of it": append(ones(size-1), append(zeros(100), 7)...),
	}
}

// Every picture of the sketches comes out, however many bytes come at a time.
func TestPicturesThatComeSlowly(t *testing.T) {
	r := rand.New(rand.NewSource(8))
	eachSketch(r, func(s sketch) {
		if s.width > 9 || s.height > 9 {
			return
		}
		if s.kind < 4 && s.width%2 == 0 {
			s.clearLike(r)
		}
		s.filters = []byte{byte(r.Intn(5)), byte(r.Intn(5))}
		b, want := s.bytes(), s.image()
		for name, script := range patientScripts(r, len(b)) {
			answers(t, name, b, most, script, want, api.OK)
		}
	})
}

// Chunks that say nothing, and rows that are parted in any way.
func TestChunksThatComeSlowly(t *testing.T) {
	r := rand.New(rand.NewSource(18))
	for range 40 {
		s := anySketch(r)
		pieces := append(s.ahead(), silent[r.Intn(len(silent))])
		pieces = append(pieces, parted(wrap(s.rows()), r.Intn(9), 0, r.Intn(9), r.Intn(99), 0)...)
		pieces = append(pieces, silent[r.Intn(len(silent))], iend)
		b, want := whole(pieces...), s.image()
		for name, script := range patientScripts(r, len(b)) {
			answers(t, name, b, most, script, want, api.OK)
		}
	}
}

// What is wrong, or too large, is answered as without a script too.
func TestErrorsThatComeSlowly(t *testing.T) {
	r := rand.New(rand.NewSource(28))
	counts := map[api.Errno]int{}
	for range 600 {
		s := anySketch(r)
		pieces := s.pieces()
		for range r.Intn(3) {
			pieces = spoil(r, pieces)
		}
		b, limit := whole(pieces...), []int{most, 50, 1}[r.Intn(3)]
		want, wantE := byWords(b, limit)
		counts[wantE]++
		for name, script := range patientScripts(r, len(b)) {
			answers(t, name, b, limit, script, want, wantE)
		}
	}
	if counts[api.OK] < 50 || counts[api.ErrTooLarge] < 50 || counts[api.ErrMalformed] < 50 {
		t.Errorf("too few of a sort: %v", counts)
	}
}

// Just 100 times nothing ahead of each byte, alone; once more, and it has failed.
func TestNothingAheadOfEachByte(t *testing.T) {
	for _, b := range slowPictures() {
		for n := range len(b) {
			comes(t, fmt.Sprintf("100 times nothing behind %d bytes", n), b, ones(n, zeros(100)...))
			comes(t, fmt.Sprintf("100 times nothing behind %d bytes, and a few more", n), b, append(ones(n, zeros(100)...), ones(5)...))
			refuses(t, fmt.Sprintf("101 times nothing behind %d bytes", n), b, most, ones(n, zeros(101)...), api.ErrSource)
			refuses(t, fmt.Sprintf("1000 times nothing behind %d bytes", n), b, most, ones(n, zeros(1000)...), api.ErrSource)
		}
		// At the end there is nothing left to be given.
		comes(t, "101 times nothing behind all bytes", b, ones(len(b), zeros(101)...))
	}
}

// slowPictures are a few pictures with all that a picture may have.
func slowPictures() []string {
	r := rand.New(rand.NewSource(38))
	indices := randomSketch(r, 3, 4, 3, 3, true)
	indices.clearLike(r)
	colours := randomSketch(r, 2, 16, 2, 2, false)
	colours.clearLike(r)
	colours.entries = "abc"
	packed := wrap(indices.rows())
	return []string{
		whole(greyHead, greyRows, iend),
		colours.bytes(),
		whole(slices.Concat(indices.ahead(), []piece{silent[0]}, parted(packed, 0, 5, 0), []piece{{"IDAT", ""}, silent[1], iend})...),
	}
}

// 101 times nothing in all, but a byte comes between: no failing.
func TestNothingWithAByteBetween(t *testing.T) {
	b := whole(greyHead, greyRows, iend)
	for first := 1; first <= 100; first++ {
		comes(t, fmt.Sprintf("%d times nothing, a byte, and nothing up to 101 times", first), b, slices.Concat(zeros(first), []int{1}, zeros(101-first)))
	}
	comes(t, "50 times 100 times nothing", b, slices.Repeat(append(zeros(100), 2), 50))
	refuses(t, "100 times nothing, a byte, and 101 times nothing", b, most, slices.Concat(zeros(100), []int{1}, zeros(101)), api.ErrSource)
}

// A text that ends too early is at its end, whatever the script says then.
func TestNothingIsLeft(t *testing.T) {
	good := whole(greyHead, greyRows, iend)
	for n := range len(good) + 1 {
		want := api.ErrMalformed
		image := api.Image{}
		if n == len(good) {
			want, image = api.OK, pixels(1, 1, 0, 0, 0, all)
		}
		for _, behind := range [][]int{{}, {-1}, {-1, -1, -1}, {0}, zeros(101), zeros(1000), append(zeros(101), -1), {5, 5}} {
			answers(t, fmt.Sprintf("%d bytes, then %d numbers", n, len(behind)), good[:n], most, ones(n, behind...), image, want)
		}
	}
}

// Behind the last chunk it is asked whether there is more, and nothing else.
func TestBehindTheLastChunk(t *testing.T) {
	for _, good := range slowPictures() {
		for _, behind := range [][]int{{-1}, {-1, -1}, {0, -1}, zeros(101), zeros(500), {1, -1}} {
			comes(t, "a script that goes on", good, ones(len(good), behind...))
		}
		for _, more := range []string{"x", "\x00", "xyz", iend.bytes(), silent[0].bytes(), good} {
			b := good + more
			refuses(t, "bytes too many", b, most, ones(len(b)), api.ErrMalformed)
			refuses(t, "bytes too many, of which one comes", b, most, ones(len(good)+1, -1), api.ErrMalformed)
			refuses(t, "bytes too many, of which one comes late", b, most, ones(len(good), append(zeros(100), 1, -1)...), api.ErrMalformed)
			refuses(t, "bytes too many, but it fails ahead of them", b, most, ones(len(good), -1), api.ErrSource)
			refuses(t, "bytes too many, but it fails late ahead of them", b, most, ones(len(good), append(zeros(100), -1)...), api.ErrSource)
			refuses(t, "bytes too many, but none comes", b, most, ones(len(good), zeros(101)...), api.ErrSource)
		}
	}
}

// Long scripts, of which most is never asked for, or which give nothing for long.
func TestLongScriptsEnd(t *testing.T) {
	b := whole(greyHead, piece{"teXt", strings.Repeat("x", 50000)}, greyRows, iend)
	comes(t, "100 times nothing ahead of each byte", b, slices.Repeat(append(zeros(100), 1), len(b)))
	comes(t, "a script far too long", b, ones(1<<22))
	refuses(t, "nothing for ever", b, most, zeros(1<<22), api.ErrSource)
	refuses(t, "nothing for ever, and it would fail at last", b, most, append(zeros(1<<20), -1), api.ErrSource)
}
