package paint

import (
	"math/big"
	"slices"
	"testing"

	"vellum/colour"
	"vellum/head"
	"vellum/rows"
)

// A row, as one great number, has its first sample highest.
func TestSamplesStandHighestBitFirst(t *testing.T) {
	row := []byte{0x1b, 0xe4, 0x80, 0x01, 0xff, 0x00, 0xa5, 0x5a}
	for _, depth := range []int{1, 2, 4, 8, 16} {
		for i := range 64 / depth {
			n := new(big.Int).SetBytes(row)
			n.Rsh(n, uint(64-depth*(i+1)))
			want := uint16(n.Uint64() & (1<<depth - 1))
			if got := sample(row, i, depth); got != want {
				t.Errorf("sample %d of %d bits: %d, want %d", i, depth, got, want)
			}
		}
	}
}

// paintRow paints a row, byte by byte.
func paintRow(c *Canvas, part rows.Part, y int, row []byte) error {
	for n := range row {
		if err := c.Byte(part, y, row[:n+1]); err != nil {
			return err
		}
	}
	return nil
}

func TestRowsArePaintedWhereTheirPartHasThem(t *testing.T) {
	of := head.Head{Width: 4, Height: 3, Depth: 16, Kind: head.GreyCover}
	c := New(of, colour.New(of))
	part := rows.Part{X: 1, StepX: 2, Y: 0, StepY: 2, Width: 2, Height: 2}
	for y, row := range [][]byte{{0, 1, 0, 2, 0, 3, 0, 4}, {0, 5, 0, 6, 0, 7, 0, 8}} {
		if err := paintRow(c, part, y, row); err != nil {
			t.Fatal(err)
		}
	}
	img := c.Image()
	want := make([]uint16, 48)
	copy(want[4:], []uint16{1, 1, 1, 2})
	copy(want[12:], []uint16{3, 3, 3, 4})
	copy(want[36:], []uint16{5, 5, 5, 6})
	copy(want[44:], []uint16{7, 7, 7, 8})
	if img.Width != 4 || img.Height != 3 || !slices.Equal(img.Pix, want) {
		t.Errorf("%+v, want %v", img, want)
	}
}

// A pixel is painted with the byte by which it gets whole, neither ahead of it
// nor behind it: of each kind and depth, how many are painted behind each byte.
func TestPixelsArePaintedAsTheyGetWhole(t *testing.T) {
	for _, c := range []struct {
		kind  head.Kind
		depth int
		width int
		want  []int
	}{
		{head.Grey, 1, 11, []int{8, 11}},
		{head.Grey, 2, 5, []int{4, 5}},
		{head.Grey, 4, 5, []int{2, 4, 5}},
		{head.Grey, 8, 3, []int{1, 2, 3}},
		{head.Grey, 16, 2, []int{0, 1, 1, 2}},
		{head.GreyCover, 8, 2, []int{0, 1, 1, 2}},
		{head.Colours, 8, 2, []int{0, 0, 1, 1, 1, 2}},
		{head.ColoursCover, 8, 1, []int{0, 0, 0, 1}},
		{head.Colours, 16, 2, []int{0, 0, 0, 0, 0, 1, 1, 1, 1, 1, 1, 2}},
		{head.ColoursCover, 16, 1, []int{0, 0, 0, 0, 0, 0, 0, 1}},
	} {
		of := head.Head{Width: c.width, Height: 1, Depth: c.depth, Kind: c.kind}
		canvas := New(of, colour.New(of))
		row := slices.Repeat([]byte{0xff}, len(c.want))
		for n, want := range c.want {
			if err := canvas.Byte(rows.Part{StepX: 1, StepY: 1, Width: c.width, Height: 1}, 0, row[:n+1]); err != nil {
				t.Fatal(err)
			}
			painted := 0
			for painted < c.width && canvas.pix[4*painted] == 65535 {
				painted++
			}
			if painted != want {
				t.Errorf("kind %d, depth %d: %d pixels behind %d bytes, want %d", c.kind, c.depth, painted, n+1, want)
			}
		}
	}
}

func TestIndexWithoutEntryIsToldWithItsPlace(t *testing.T) {
	of := head.Head{Width: 3, Height: 1, Depth: 2, Kind: head.Indices}
	err := New(of, colour.New(of)).Byte(rows.Part{StepX: 1, StepY: 1, Width: 3, Height: 1}, 0, []byte{0})
	if err == nil || err.Error() != "pixel 0: malformed: an index that has no entry" {
		t.Errorf("%v", err)
	}
}
