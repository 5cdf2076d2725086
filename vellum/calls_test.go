package vellum

import (
	"math/rand"
	"slices"
	"strings"
	"sync"
	"testing"

	"vellum/api"
)

// This file has what P1 and P2 promise of the call, and pictures that are nearly
// right, held against the document's words.

func sameImage(a, b api.Image) bool {
	return a.Width == b.Width && a.Height == b.Height && slices.Equal(a.Pix, b.Pix)
}

// asByWords holds an answer against the document's words.
func asByWords(t *testing.T, b string, limit int) api.Errno {
	t.Helper()
	got, e := Decode(b, limit, nil)
	want, wantE := byWords(b, limit)
	if e != wantE || !sameImage(got, want) {
		t.Errorf("P7: %x, limit %d: error %d, %d times %d, %d numbers; want %d, %d times %d, %d numbers", b, limit, e, got.Width, got.Height, len(got.Pix), wantE, want.Width, want.Height, len(want.Pix))
	}
	if e != api.OK && (got.Width != 0 || got.Height != 0 || got.Pix != nil) {
		t.Errorf("P1: %x: an image beside the error %d", b, e)
	}
	return e
}

func anySketch(r *rand.Rand) sketch {
	kind := kinds[r.Intn(5)]
	depths := depthsOf[kind]
	s := randomSketch(r, kind, depths[r.Intn(len(depths))], 1+r.Intn(10), 1+r.Intn(10), r.Intn(2) == 0)
	s.filters = []byte{byte(r.Intn(5)), byte(r.Intn(5)), byte(r.Intn(5))}
	if kind < 4 && r.Intn(2) == 0 {
		s.clearLike(r)
	}
	return s
}

// spoil changes a picture's chunks in one way or another; some pictures stay right.
func spoil(r *rand.Rand, pieces []piece) []piece {
	if len(pieces) == 0 {
		return pieces
	}
	pieces = slices.Clone(pieces)
	at, to := r.Intn(len(pieces)), r.Intn(len(pieces))
	p := &pieces[at]
	switch r.Intn(11) {
	case 0:
		return slices.Delete(pieces, at, at+1)
	case 1:
		return slices.Insert(pieces, at, pieces[to])
	case 2:
		pieces[at], pieces[to] = pieces[to], pieces[at]
	case 3, 4:
		return slices.Insert(pieces, at, silent[r.Intn(len(silent))])
	case 5:
		name := []byte(p.name)
		name[r.Intn(4)] ^= byte(1 << r.Intn(8))
		p.name = string(name)
	case 6:
		p.data = p.data[:r.Intn(len(p.data)+1)]
	case 7:
		p.data += randomText(r, 1+r.Intn(4))
	case 8:
		if p.data != "" {
			data := []byte(p.data)
			data[r.Intn(len(data))] ^= byte(1 << r.Intn(8))
			p.data = string(data)
		}
	case 9:
		cut := r.Intn(len(p.data) + 1)
		return slices.Replace(pieces, at, at+1, piece{p.name, p.data[:cut]}, piece{p.name, p.data[cut:]})
	case 10:
		extra := []piece{{"PLTE", randomText(r, 3*(1+r.Intn(5)))}, {"tRNS", randomText(r, 1+r.Intn(6))}, {"tRNS", "\x00\x01"}, {"tRNS", "\x00\x01\x00\x01\x00\x01"}, {"ABCD", ""}, {"IDAT", ""}}
		return slices.Insert(pieces, at, extra[r.Intn(len(extra))])
	}
	return pieces
}

// spoilRows changes a byte of the rows, or how many there are, and packs them rightly.
func spoilRows(r *rand.Rand, s *sketch) []piece {
	rows := []byte(s.rows())
	switch r.Intn(4) {
	case 0:
		rows = rows[:r.Intn(len(rows))]
	case 1:
		rows = append(rows, randomText(r, 1+r.Intn(3))...)
	default:
		rows[r.Intn(len(rows))] = byte(r.Intn(8))
	}
	return append(s.ahead(), idat(string(rows)), iend)
}

func TestPicturesThatAreNearlyRight(t *testing.T) {
	r := rand.New(rand.NewSource(11))
	counts := map[api.Errno]int{}
	for range 12000 {
		s := anySketch(r)
		pieces := s.pieces()
		if r.Intn(3) == 0 {
			pieces = spoilRows(r, &s)
		}
		for range r.Intn(4) {
			pieces = spoil(r, pieces)
		}
		limit := []int{most, most, 100, 50, 1}[r.Intn(5)]
		counts[asByWords(t, whole(pieces...), limit)]++
	}
	for _, e := range []api.Errno{api.OK, api.ErrTooLarge, api.ErrMalformed} {
		if counts[e] < 500 {
			t.Errorf("only %d pictures with the error %d: %v", counts[e], e, counts)
		}
	}
}

func TestTextsOfAnyBytes(t *testing.T) {
	r := rand.New(rand.NewSource(21))
	for i := range 4000 {
		s := anySketch(r)
		b := []byte(s.bytes())
		for range 1 + r.Intn(3) {
			b[r.Intn(len(b))] = byte(r.Intn(256))
		}
		asByWords(t, string(b), most)
		asByWords(t, randomText(r, i%200), most)
		asByWords(t, begin+randomText(r, i%200), most)
		asByWords(t, whole(s.head())+randomText(r, i%200), most)
		asByWords(t, s.bytes(), r.Intn(3)-1)
	}
}

// Long texts of chunks, of which each says little or nothing.
func TestLongTextsEnd(t *testing.T) {
	for _, c := range []struct {
		name string
		b    string
		want api.Errno
	}{
		{"silent chunks", whole(greyHead) + strings.Repeat(chunk("teXt", ""), 100000) + greyRows.bytes() + iend.bytes(), api.OK},
		{"a long silent chunk", whole(greyHead, piece{"teXt", strings.Repeat("x", 1<<22)}, greyRows, iend), api.OK},
		{"rows without data", whole(greyHead) + strings.Repeat(chunk("IDAT", ""), 100000) + greyRows.bytes() + strings.Repeat(chunk("IDAT", ""), 100000) + iend.bytes(), api.OK},
		{"blocks without bytes", whole(greyHead, piece{"IDAT", "\x78\x9c" + strings.Repeat("\x00\x00\x00\xff\xff", 200000)}, iend), api.ErrMalformed},
		{"rows that go on and on", whole(greyHead, idat(strings.Repeat("\x00", 1<<24)), iend), api.ErrMalformed},
	} {
		if _, e := Decode(c.b, most, nil); e != c.want {
			t.Errorf("P1, P7: %s: error %d, want %d", c.name, e, c.want)
		}
	}
}

// Images share no memory, and what is done to one is not seen in the next.
func TestImagesAreTheCallers(t *testing.T) {
	r := rand.New(rand.NewSource(31))
	for range 100 {
		s := anySketch(r)
		b, want := s.bytes(), s.image()
		first, _ := Decode(b, most, nil)
		second, _ := Decode(b, most, nil)
		if !sameImage(first, second) || !sameImage(first, want) {
			t.Fatal("P2: the same picture, another image")
		}
		for i := range first.Pix {
			first.Pix[i] ^= 0xffff
		}
		first.Pix = append(first.Pix, 1, 2, 3)
		third, _ := Decode(b, most, nil)
		if !sameImage(second, want) || !sameImage(third, want) {
			t.Fatal("P2: images of two calls share memory")
		}
	}
}

// The list that is handed in is not changed; that it is empty, or not there, is
// the same.
func TestScriptIsNotChanged(t *testing.T) {
	s := anySketch(rand.New(rand.NewSource(41)))
	script := []int{1, 1 << 30, 3, 5}
	room := slices.Clone(script)
	Decode(s.bytes(), most, room[:2])
	Decode(s.bytes()[:30], most, room[:2])
	if !slices.Equal(room, script) {
		t.Errorf("P2: the script has become %v", room)
	}
	if img, e := Decode(s.bytes(), most, []int{}); e != api.OK || !sameImage(img, s.image()) {
		t.Errorf("P7: with an empty script: error %d", e)
	}
}

// Called from many goroutines at a time, each call answers as if it were alone.
func TestAnswersHangOnArgumentsAlone(t *testing.T) {
	r := rand.New(rand.NewSource(51))
	var texts []string
	for range 40 {
		s := anySketch(r)
		texts = append(texts, s.bytes(), whole(spoil(r, s.pieces())...))
	}
	var all sync.WaitGroup
	for start := range 8 {
		all.Go(func() {
			for i := range texts {
				asByWords(t, texts[(i+10*start)%len(texts)], most)
			}
		})
	}
	all.Wait()
}

func FuzzDecode(f *testing.F) {
	r := rand.New(rand.NewSource(61))
	for range 30 {
		s := anySketch(r)
		f.Add(s.bytes(), 100)
	}
	f.Fuzz(func(t *testing.T, b string, limit int) {
		asByWords(t, b, limit)
		asByWords(t, repaired(b), 4096)
	})
}

// repaired gives chunks their right sums, so that a changed byte is not told by
// them alone.
func repaired(b string) string {
	if len(b) < 8 {
		return b
	}
	out := begin
	for rest := b[8:]; len(rest) >= 12; {
		size := min(numberOf(rest[:4]), len(rest)-12)
		out += chunk(rest[4:8], rest[8:8+size])
		rest = rest[12+size:]
	}
	return out
}
