package rows

import (
	"errors"
	"fmt"
	"slices"
	"strings"
	"testing"

	"vellum/fault"
	"vellum/head"
)

// Every pixel of a picture is in just one part, and parts without pixels are none.
func TestPartsHaveEachPixelOnce(t *testing.T) {
	for width := 1; width <= 20; width++ {
		for height := 1; height <= 20; height++ {
			for _, interlaced := range []bool{false, true} {
				seen := make([]int, width*height)
				for _, part := range Parts(head.Head{Width: width, Height: height, Interlaced: interlaced}) {
					if part.Width < 1 || part.Height < 1 {
						t.Errorf("%d times %d: a part without pixels: %+v", width, height, part)
					}
					for y := range part.Height {
						for x := range part.Width {
							seen[(part.Y+y*part.StepY)*width+part.X+x*part.StepX]++
						}
					}
				}
				if slices.Min(seen) != 1 || slices.Max(seen) != 1 {
					t.Errorf("%d times %d: %v", width, height, seen)
				}
			}
		}
	}
}

func TestPartsOfSmallPictures(t *testing.T) {
	for _, c := range []struct {
		width, height int
		want          string // first x, first y, width and height of each
	}{
		{1, 1, "00:1x1 "},
		{2, 2, "00:1x1 10:1x1 01:2x1 "},
		{5, 3, "00:1x1 40:1x1 20:1x1 02:3x1 10:2x2 01:5x1 "},
		{8, 8, "00:1x1 40:1x1 04:2x1 20:2x2 02:4x2 10:4x4 01:8x4 "},
		{9, 9, "00:2x2 40:1x2 04:3x1 20:2x3 02:5x2 10:4x5 01:9x4 "},
	} {
		got := ""
		for _, p := range Parts(head.Head{Width: c.width, Height: c.height, Interlaced: true}) {
			got += fmt.Sprintf("%d%d:%dx%d ", p.X, p.Y, p.Width, p.Height)
		}
		if got != c.want {
			t.Errorf("%d times %d: %s, want %s", c.width, c.height, got, c.want)
		}
	}
}

// Each of the three, by the document's words, at all bytes that are far and near.
func TestAdded(t *testing.T) {
	values := []int{0, 1, 2, 3, 5, 7, 8, 100, 126, 127, 128, 129, 200, 253, 254, 255}
	abs := func(n int) int { return max(n, -n) }
	for _, l := range values {
		for _, a := range values {
			for _, c := range values {
				near := l + a - c
				fourth := c
				if abs(near-a) <= abs(near-c) {
					fourth = a
				}
				if abs(near-l) <= abs(near-a) && abs(near-l) <= abs(near-c) {
					fourth = l
				}
				for filter, want := range []int{0, l, a, (l + a) / 2, fourth} {
					if got := added(byte(filter), byte(l), byte(a), byte(c)); int(got) != want {
						t.Errorf("filter %d, L %d, A %d, C %d: %d, want %d", filter, l, a, c, got, want)
					}
				}
			}
		}
	}
}

// put puts bytes in, and tells the rows that got whole.
func put(of head.Head, bytes string) (string, error) {
	var told strings.Builder
	var r *Rows
	r = New(of, func(part Part, y int, sofar []byte) error {
		if len(sofar) == r.bytesOf(part) {
			fmt.Fprintf(&told, "%d,%d:%d:%x ", part.X, part.Y, y, sofar)
		}
		return nil
	})
	for i := range len(bytes) {
		if err := r.Put(bytes[i]); err != nil {
			return told.String(), err
		}
	}
	return told.String(), nil
}

// A row is taken with each of its bytes; with its filter it is not.
func TestRowsAreTakenAsTheirBytesCome(t *testing.T) {
	told := ""
	r := New(head.Head{Width: 3, Height: 2, Depth: 8, Kind: head.Grey}, func(part Part, y int, sofar []byte) error {
		told += fmt.Sprintf("%d:%x ", y, sofar)
		return nil
	})
	for i, c := range []struct {
		b    byte
		want string
	}{{1, ""}, {1, "0:01 "}, {1, "0:0102 "}, {1, "0:010203 "}, {2, ""}, {9, "1:0a "}, {9, "1:0a0b "}, {9, "1:0a0b0c "}} {
		told = ""
		if err := r.Put(c.b); err != nil || told != c.want {
			t.Errorf("byte %d: %q, %v, want %q", i, told, err, c.want)
		}
	}
}

func TestRowsAreWholeAndUnfiltered(t *testing.T) {
	grey := head.Head{Width: 3, Height: 3, Depth: 8, Kind: head.Grey}
	small := grey
	small.Interlaced = true
	for _, c := range []struct {
		of          head.Head
		bytes, want string
		size        int
	}{
		{grey, "\x00\x01\x02\x03\x01\x01\x01\x01\x02\x01\x01\x01", "0,0:0:010203 0,0:1:010203 0,0:2:020304 ", 12},
		{grey, "\x00\x01\x02", "", 12},
		{grey, "\x00\x01\x02\x03\x04", "0,0:0:010203 ", 12},
		// Small pictures: nothing stands above their first rows, however wide.
		{small, "\x02\x01\x02\x02\x02\x03\x04\x02\x05\x02\x06\x02\x07\x08\x09", "0,0:0:01 2,0:0:02 0,2:0:0304 1,0:0:05 1,0:1:0b 0,1:0:070809 ", 15},
		// A pixel of less than a byte: the byte to the left is 1 away.
		{head.Head{Width: 9, Height: 1, Depth: 1, Kind: head.Grey}, "\x01\x80\x01", "0,0:0:8081 ", 3},
		{head.Head{Width: 3, Height: 1, Depth: 4, Kind: head.Indices}, "\x01\x80\x01", "0,0:0:8081 ", 3},
		// Pixels of 2, 3, 4, 6 and 8 bytes.
		{head.Head{Width: 2, Height: 1, Depth: 16, Kind: head.Grey}, "\x01\x01\x02\x03\x04", "0,0:0:01020406 ", 5},
		{head.Head{Width: 2, Height: 1, Depth: 8, Kind: head.GreyCover}, "\x01\x01\x02\x03\x04", "0,0:0:01020406 ", 5},
		{head.Head{Width: 2, Height: 1, Depth: 8, Kind: head.Colours}, "\x01\x01\x02\x03\x04\x05\x06", "0,0:0:010203050709 ", 7},
		{head.Head{Width: 2, Height: 1, Depth: 16, Kind: head.GreyCover}, "\x01\x01\x02\x03\x04\x01\x01\x01\x01", "0,0:0:0102030402030405 ", 9},
		{head.Head{Width: 2, Height: 1, Depth: 16, Kind: head.Colours}, "\x01\x01\x02\x03\x04\x05\x06\x01\x01\x01\x01\x01\x01", "0,0:0:010203040506020304050607 ", 13},
		{head.Head{Width: 2, Height: 1, Depth: 16, Kind: head.ColoursCover}, "\x01\x01\x02\x03\x04\x05\x06\x07\x08\x01\x01\x01\x01\x01\x01\x01\x01", "0,0:0:01020304050607080203040506070809 ", 17},
	} {
		got, err := put(c.of, c.bytes)
		if got != c.want || err != nil {
			t.Errorf("%+v: %s, %v, want %s", c.of, got, err, c.want)
		}
		if size := New(c.of, nil).Size(); size != c.size {
			t.Errorf("%+v: %d bytes in all, want %d", c.of, size, c.size)
		}
	}
}

// Told at once, with the row in which it was.
func TestBytesThatMayNotBe(t *testing.T) {
	of := head.Head{Width: 1, Height: 2, Depth: 8, Kind: head.Grey}
	for _, c := range []struct{ bytes, want string }{
		{"\x05", "row 0: malformed: a filter above 4"},
		{"\xff", "row 0: malformed: a filter above 4"},
		{"\x00\x00\x05", "row 1: malformed: a filter above 4"},
		{"\x00\x00\x00\x00\x00", "row 2: malformed: a byte behind the last row"},
	} {
		if _, err := put(of, c.bytes); err == nil || err.Error() != c.want {
			t.Errorf("%x: %v, want %s", c.bytes, err, c.want)
		}
	}
}

func TestTakerThatStops(t *testing.T) {
	enough := errors.New("enough")
	r := New(head.Head{Width: 1, Height: 2, Depth: 8, Kind: head.Grey}, func(Part, int, []byte) error { return enough })
	if err := r.Put(0); err != nil {
		t.Error(err)
	}
	var place *fault.Place
	if err := r.Put(0); !errors.Is(err, enough) || !errors.As(err, &place) || place.Unit != "row" || place.Number != 0 {
		t.Errorf("%v", err)
	}
}
