package paint

import (
	"math/big"
	"slices"
	"testing"

	"vellum/colour"
	"vellum/head"
	"vellum/rows"
)

// A row, as one great number, has its first sample highest.
func TestSamplesStandHighestBitFirst(t *testing.T) {
	row := []byte{0x1b, 0xe4, 0x80, 0x01, 0xff, 0x00, 0xa5, 0x5a}
	for _, depth := range []int{1, 2, 4, 8, 16} {
		for i := range 64 / depth {
			n := new(big.Int).SetBytes(row)
			n.Rsh(n, uint(64-depth*(i+1)))
			want := uint16(n.Uint64() & (1<<depth - 1))
			if got := sample(row, i, depth); got != want {
				t.Errorf("sample %d of %d bits: %d, want %d", i, depth, got, want)
			}
		}
	}
}

func TestRowsArePaintedWhereTheirPartHasThem(t *testing.T) {
	of := head.Head{Width: 4, Height: 3, Depth: 16, Kind: head.GreyCover}
	c := New(of, colour.New(of))
	part := rows.Part{X: 1, StepX: 2, Y: 0, StepY: 2, Width: 2, Height: 2}
	for y, row := range [][]byte{{0, 1, 0, 2, 0, 3, 0, 4}, {0, 5, 0, 6, 0, 7, 0, 8}} {
		if err := c.Row(part, y, row); err != nil {
			t.Fatal(err)
		}
	}
	img := c.Image()
	want := make([]uint16, 48)
	copy(want[4:], []uint16{1, 1, 1, 2})
	copy(want[12:], []uint16{3, 3, 3, 4})
	copy(want[36:], []uint16{5, 5, 5, 6})
	copy(want[44:], []uint16{7, 7, 7, 8})
	if img.Width != 4 || img.Height != 3 || !slices.Equal(img.Pix, want) {
		t.Errorf("%+v, want %v", img, want)
	}
}

func TestIndexWithoutEntryIsToldWithItsPlace(t *testing.T) {
	of := head.Head{Width: 3, Height: 1, Depth: 2, Kind: head.Indices}
	err := New(of, colour.New(of)).Row(rows.Part{StepX: 1, StepY: 1, Width: 3, Height: 1}, 0, []byte{0})
	if err == nil || err.Error() != "pixel 0: malformed: an index that has no entry" {
		t.Errorf("%v", err)
	}
}
