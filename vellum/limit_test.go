package vellum

import (
	"math/rand"
	"strings"
	"testing"

	"vellum/api"
)

// ErrLimit comes ahead of all other errors, and of every picture.
func TestLimitsThatMayNotBe(t *testing.T) {
	right := whole(greyHead, greyRows, iend)
	large := whole(headOf(1<<31-1, 1<<31-1, 8, 0, 0))
	for _, limit := range []int{0, -1, 1048577, -1 << 63, 1<<63 - 1, -1048576, 1 << 32, 1<<32 + 1} {
		for _, b := range []string{"", "x", right, right[:20], right + "x", large} {
			fails(t, "a limit that may not be", b, limit, api.ErrLimit)
		}
	}
}

func TestLimitsThatMayBe(t *testing.T) {
	right := whole(greyHead, greyRows, iend)
	for _, limit := range []int{1, 2, 1048575, 1048576} {
		if img, e := Decode(right, limit, nil); e != api.OK || len(img.Pix) != 4 {
			t.Errorf("P7: the limit %d: error %d", limit, e)
		}
	}
}

// Just as many pixels as there may be, and one more.
func TestPixelsAtTheLimit(t *testing.T) {
	r := rand.New(rand.NewSource(9))
	for _, side := range sides {
		for _, interlaced := range []bool{false, true} {
			s := randomSketch(r, 0, 1, side[0], side[1], interlaced)
			pixels := side[0] * side[1]
			if img, e := Decode(s.bytes(), pixels, nil); e != api.OK || len(img.Pix) != 4*pixels {
				t.Errorf("P7: %d times %d with the limit %d: error %d", side[0], side[1], pixels, e)
			}
			if pixels > 1 {
				fails(t, "one pixel more than there may be", s.bytes(), pixels-1, api.ErrTooLarge)
			}
		}
	}
}

// The greatest pictures that there may be, in all shapes.
func TestGreatestPictures(t *testing.T) {
	for _, c := range []struct{ width, height, depth, kind, interlaced, size int }{
		{1024, 1024, 1, 0, 0, 1024 * 129},
		{1048576, 1, 8, 0, 0, 1 + 1048576},
		{1, 1048576, 1, 0, 0, 2 * 1048576},
		{1024, 1024, 16, 6, 0, 1024 * (1 + 8192)},
		{1, 1048576, 16, 6, 1, 9 * 1048576},
	} {
		rows := idat(strings.Repeat("\x00", c.size))
		img, e := Decode(whole(headOf(c.width, c.height, c.depth, c.kind, c.interlaced), rows, iend), most, nil)
		if e != api.OK || img.Width != c.width || img.Height != c.height || len(img.Pix) != 4*most {
			t.Errorf("P7: %d times %d: error %d, %d numbers", c.width, c.height, e, len(img.Pix))
		}
	}
}

// What follows the first chunk says nothing where a picture is too large; but
// the eight bytes and the first chunk must be right.
func TestTooLarge(t *testing.T) {
	for _, c := range []struct{ width, height, limit int }{
		{2, 1, 1}, {1, 2, 1}, {2, 3, 5}, {1025, 1024, most}, {1048577, 1, most}, {1, 1048577, most},
		{1<<31 - 1, 1, most}, {1, 1<<31 - 1, most}, {1<<31 - 1, 1<<31 - 1, most}, {1<<31 - 1, 1<<31 - 1, 1},
		// Products that are small, or 0, where only 32 bits are kept of them.
		{1 << 16, 1 << 16, most}, {1 << 30, 4, most}, {1<<16 + 1, 1 << 16, most}, {1 << 30, 1 << 30, most},
	} {
		head := headOf(c.width, c.height, 8, 2, 1)
		right := whole(head)
		for _, behind := range []string{"", "x", "\xff\xff\xff\xff", iend.bytes(), greyRows.bytes() + iend.bytes(), head.bytes(), chunk("ABCD", ""), chunk("IDAT", "rows") + "x"} {
			fails(t, "too many pixels", right+behind, c.limit, api.ErrTooLarge)
		}
		for n := range len(right) {
			fails(t, "too many pixels, but it ends too early", right[:n], c.limit, api.ErrMalformed)
			b := []byte(right)
			b[n] ^= 4
			fails(t, "too many pixels, but a bit is turned", string(b), c.limit, api.ErrMalformed)
		}
		for _, wrong := range []piece{headOf(c.width, c.height, 4, 2, 0), headOf(c.width, c.height, 8, 5, 0), headOf(c.width, c.height, 8, 2, 2), {"IHDR", head.data + "\x00"}, {"IHDR", head.data[:12]}, {"iHDR", head.data}} {
			fails(t, "too many pixels, but the first chunk is wrong", whole(wrong), c.limit, api.ErrMalformed)
		}
	}
}
