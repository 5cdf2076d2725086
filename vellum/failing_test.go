package vellum

import (
	"fmt"
	"math/rand"
	"slices"
	"sync"
	"testing"

	"vellum/api"
)

// This file has sources that fail, and what was settled by then: P8 and P7.

// A number below 0 at every place: ahead of the first byte, inside each chunk,
// and ahead of the last byte.
func TestSourceThatFailsAnywhere(t *testing.T) {
	for _, b := range slowPictures() {
		for n := range len(b) {
			for _, below := range []int{-1, -2, -1 << 31, -1 << 63} {
				refuses(t, fmt.Sprintf("it fails behind %d bytes", n), b, most, ones(n, below), api.ErrSource)
			}
			refuses(t, fmt.Sprintf("it fails behind %d bytes, and would go on", n), b, most, append(ones(n, -1), ones(len(b))...), api.ErrSource)
			refuses(t, fmt.Sprintf("it fails behind %d bytes and 100 times nothing", n), b, most, append(ones(n, zeros(100)...), -1), api.ErrSource)
		}
	}
	r := rand.New(rand.NewSource(48))
	for range 300 {
		s := anySketch(r)
		b := s.bytes()
		// At most one byte comes of each number: so it fails ahead of the last one.
		script := patient(r, r.Intn(len(b)), 2)
		refuses(t, "it fails somewhere", b, most, append(script, -1), api.ErrSource)
	}
}

// A limit that is none comes ahead of all that the source does.
func TestLimitComesAheadOfTheSource(t *testing.T) {
	right := whole(greyHead, greyRows, iend)
	for _, limit := range []int{0, -1, 1048577, -1 << 63, 1<<63 - 1} {
		for _, script := range [][]int{{-1}, {0, -1}, zeros(101), ones(20, -1), ones(len(right), -1)} {
			for _, b := range []string{"", "x", right, right + "x"} {
				refuses(t, "a limit that may not be", b, limit, script, api.ErrLimit)
			}
		}
	}
}

// The first chunk settles that a picture is too large; nothing does ahead of its
// end, not even its width.
func TestTooLargeAndFailing(t *testing.T) {
	for _, head := range []piece{headOf(2, 3, 8, 2, 0), headOf(1<<31-1, 1<<31-1, 16, 6, 1)} {
		ahead := len(whole(head))
		for _, b := range []string{whole(head), whole(head, greyRows, iend), whole(head) + "no chunk"} {
			for n := range len(b) {
				want := api.ErrSource
				if n >= ahead {
					want = api.ErrTooLarge
				}
				refuses(t, fmt.Sprintf("too large, and it fails behind %d bytes", n), b, 5, ones(n, -1), want)
				refuses(t, fmt.Sprintf("too large, and nothing comes behind %d bytes", n), b, 5, ones(n, zeros(101)...), want)
			}
		}
	}
}

// stored is a wrapped row whose packed bytes are the rows themselves, so that
// each byte of the rows is one of the picture.
func stored(rows string) piece {
	return piece{"IDAT", wrapAt(0, rows)}
}

// A byte by which the answer is settled: if the source fails right ahead of it,
// it is not settled yet; if right behind it, it is.
func TestWrongByteSettlesIt(t *testing.T) {
	grey := whole(headOf(1, 2, 8, 0, 0), stored("\x00\x01\x00\x02"), iend)
	rows := len(whole(headOf(1, 2, 8, 0, 0)))
	index := whole(headOf(4, 1, 8, 3, 0), entries, covers, stored("\x00\x00\x01\x00\x01"), iend)
	last := len(grey) - len(iend.bytes())
	for _, c := range []struct {
		name string
		b    string
		at   int
		to   byte
	}{
		{"the first byte", grey, 0, 'G'},
		{"the last one of the eight bytes", grey, 7, 0x0d},
		{"the count of the first chunk, its first byte", grey, 8, 1},
		{"the count of the first chunk, its last byte", grey, 11, 14},
		{"the first letter of the first chunk", grey, 12, 'i'},
		{"the last letter of the first chunk", grey, 15, 'S'},
		{"a width with its highest bit", grey, 16, 0x80},
		{"a width of 0", grey, 19, 0},
		{"a height of 0", grey, 23, 0},
		{"a depth", grey, 24, 3},
		{"a kind", grey, 25, 1},
		{"a way to pack", grey, 26, 1},
		{"a way to filter", grey, 27, 1},
		{"a way to interlace", grey, 28, 2},
		{"the sum of the first chunk, its first byte", grey, 29, grey[29] ^ 1},
		{"the sum of the first chunk, its last byte", grey, 32, grey[32] ^ 1},
		{"the count of another chunk", grey, rows, 0x80},
		{"a capital that no type begins with", grey, rows + 4, 'J'},
		{"no letter", grey, rows + 5, '1'},
		{"a small letter at the third place", grey, rows + 6, 'a'},
		{"the last letter of a type", grey, rows + 7, 'Q'},
		{"the first byte of a wrapped row", grey, rows + 8, 0x79},
		{"the second byte of a wrapped row", grey, rows + 9, 0x02},
		{"a block of sort 3", grey, rows + 10, 0x07},
		{"a count that is too great", grey, rows + 12, 1},
		{"a count that is turned over", grey, rows + 13, grey[rows+13] ^ 0x40},
		{"the filter of the first row", grey, rows + 15, 5},
		{"the filter of the second row", grey, rows + 17, 255},
		{"the sum of the rows, its first byte", grey, last - 8, grey[last-8] ^ 1},
		{"the sum of the rows, its last byte", grey, last - 5, grey[last-5] ^ 1},
		{"the sum of the chunk of rows, its first byte", grey, last - 4, grey[last-4] ^ 1},
		{"the sum of the chunk of rows, its last byte", grey, last - 1, grey[last-1] ^ 1},
		{"an unknown type in place of the last one", grey, last + 5, 'F'},
		{"the sum of the last chunk", grey, len(grey) - 1, grey[len(grey)-1] ^ 1},
		{"an index without an entry, in the middle of a row", index, len(whole(headOf(4, 1, 8, 3, 0), entries, covers)) + 17, 2},
		{"a sum of PLTE", index, len(whole(headOf(4, 1, 8, 3, 0), entries)) - 4, 0},
	} {
		if c.b[c.at] == c.to {
			t.Fatalf("%s: it is the right one", c.name)
		}
		b := []byte(c.b)
		b[c.at] = c.to
		refuses(t, c.name, string(b), most, nil, api.ErrMalformed)
		refuses(t, c.name+", and it fails right ahead of it", string(b), most, ones(c.at, -1), api.ErrSource)
		refuses(t, c.name+", and it fails right behind it", string(b), most, ones(c.at+1, -1), api.ErrMalformed)
		refuses(t, c.name+", and nothing comes right ahead of it", string(b), most, ones(c.at, zeros(101)...), api.ErrSource)
		refuses(t, c.name+", and nothing comes right behind it", string(b), most, ones(c.at+1, zeros(101)...), api.ErrMalformed)
	}
}

// Any bit turned over: ahead of it nothing is settled. Once it is, it stays so;
// and it is at the latest by the sum of the chunk in which the bit is.
func TestTurnedBitAndFailing(t *testing.T) {
	for _, good := range slowPictures() {
		for i := range len(good) {
			for k := range 8 {
				b := []byte(good)
				b[i] ^= 1 << k
				latest := settledBy(good, i)
				for n := range len(b) {
					_, e := Decode(string(b), most, ones(n, -1))
					switch {
					case n <= i && e != api.ErrSource, n >= latest && e != api.ErrMalformed, e != api.ErrSource && e != api.ErrMalformed:
						t.Errorf("P8: bit %d of byte %d is turned, and it fails behind %d bytes: error %d", k, i, n, e)
					case e == api.ErrMalformed:
						latest = n
					}
				}
			}
		}
	}
}

// settledBy is how many bytes must have come, if a byte of a picture is wrong, so
// that it is told: those up to the end of its chunk. A wrong count of bytes makes
// the chunk another one: so all of them.
func settledBy(b string, at int) int {
	if at < 8 {
		return 8
	}
	for begin := 8; ; {
		end := begin + 12 + numberOf(b[begin:begin+4])
		if at < begin+4 {
			return len(b)
		}
		if at < end {
			return end
		}
		begin = end
	}
}

// given is how many bytes come by a script if they are asked for one at a time,
// and whether it fails then.
func given(size int, script []int) (int, bool) {
	came, empty := 0, 0
	for _, number := range script {
		if came == size {
			break
		}
		switch {
		case number < 0:
			return came, true
		case number > 0:
			came, empty = came+1, 0
			continue
		}
		if empty++; empty == 101 {
			return came, true
		}
	}
	return size, false
}

// heldAgainst holds the answer of any script against what must be: without a
// failing, that of the document's words; with one, that or ErrSource. What is
// settled hangs on the bytes that came, whatever stands behind them.
func heldAgainst(t *testing.T, r *rand.Rand, b string, limit int, script []int) api.Errno {
	t.Helper()
	got, e := Decode(b, limit, script)
	want, wantE := byWords(b, limit)
	came, failed := given(len(b), script)
	switch {
	case !failed && (e != wantE || !sameImage(got, want)):
		t.Errorf("P8: %x, limit %d, script %v: error %d, want %d", b, limit, script, e, wantE)
	case failed && e != wantE && e != api.ErrSource, failed && e == api.OK:
		t.Errorf("P8: %x, limit %d, script %v: it fails behind %d bytes: error %d, without that %d", b, limit, script, came, e, wantE)
	case e != api.OK && (got.Width != 0 || got.Height != 0 || got.Pix != nil):
		t.Errorf("P1: %x, limit %d, script %v: an image beside the error %d", b, limit, script, e)
	}
	if !failed {
		return e
	}
	for _, other := range []string{"", randomText(r, 40), greyRows.bytes() + iend.bytes(), iend.bytes(), "\x00\x00\x00\x00"} {
		if _, otherE := byWords(b[:came]+other, limit); e != api.ErrSource && otherE != e {
			t.Errorf("P8: %x, limit %d: told %d behind %d bytes, but with %x behind them it is %d", b, limit, e, came, other, otherE)
		}
	}
	return e
}

// anyScript has numbers of all sorts; some of them fail, soon or late.
func anyScript(r *rand.Rand, size int) []int {
	script := patient(r, r.Intn(2*size+1), 1+r.Intn(4))
	for range r.Intn(3) {
		at := r.Intn(len(script) + 1)
		bad := [][]int{{-1}, {-1 << 63}, zeros(101), zeros(100), zeros(99), {1 << 62}}[r.Intn(6)]
		script = slices.Insert(script, at, bad...)
	}
	return script
}

func TestAnyScriptAndAnyPicture(t *testing.T) {
	r := rand.New(rand.NewSource(58))
	counts := map[api.Errno]int{}
	for range 6000 {
		s := anySketch(r)
		pieces := s.pieces()
		for range r.Intn(3) {
			pieces = spoil(r, pieces)
		}
		b := whole(pieces...)
		counts[heldAgainst(t, r, b, []int{most, most, 50, 1, 0}[r.Intn(5)], anyScript(r, len(b)))]++
	}
	for e := api.OK; e <= api.ErrSource; e++ {
		if counts[e] < 300 {
			t.Errorf("only %d answers with the error %d: %v", counts[e], e, counts)
		}
	}
}

// The same arguments have the same answer, again and at the same time; images
// share no memory with each other.
func TestScriptsOfSeveralCalls(t *testing.T) {
	r := rand.New(rand.NewSource(68))
	for range 30 {
		s := anySketch(r)
		b := s.bytes()
		script := anyScript(r, len(b))
		first, e := Decode(b, most, script)
		if e == api.OK {
			for i := range first.Pix {
				first.Pix[i] ^= 0xffff
			}
		}
		was := slices.Clone(script)
		var all sync.WaitGroup
		for range 8 {
			all.Go(func() {
				again, againE := Decode(b, most, script)
				if againE != e || e == api.OK && !sameImage(again, s.image()) {
					t.Errorf("P2: the same arguments: error %d, then %d, or another image", e, againE)
				}
			})
		}
		all.Wait()
		if !slices.Equal(script, was) {
			t.Error("P2: the script has changed")
		}
	}
}

func FuzzScript(f *testing.F) {
	r := rand.New(rand.NewSource(78))
	for range 30 {
		s := anySketch(r)
		b := s.bytes()
		script := make([]byte, r.Intn(len(b)))
		for i := range script {
			script[i] = byte(r.Intn(3))
		}
		f.Add(b, 100, script)
	}
	f.Fuzz(func(t *testing.T, b string, limit int, numbers []byte) {
		script := make([]int, len(numbers))
		for i, number := range numbers {
			script[i] = int(int8(number))
		}
		heldAgainst(t, rand.New(rand.NewSource(1)), b, limit, script)
		heldAgainst(t, rand.New(rand.NewSource(1)), repaired(b), 4096, script)
	})
}
