// Package head: what a picture's first chunk says: see DOC.md, 'Pictures'.
package head

import (
	"vellum/fault"
	"vellum/source"
)

// Size is how many bytes of data the first chunk has.
const Size = 13

// Kind says what the samples of a pixel are.
type Kind byte

const (
	Grey         Kind = 0
	Colours      Kind = 2
	Indices      Kind = 3
	GreyCover    Kind = 4
	ColoursCover Kind = 6
)

// Samples is how many samples a pixel of a kind has; 0, if it is no kind.
func (k Kind) Samples() int {
	switch k {
	case Grey, Indices:
		return 1
	case GreyCover:
		return 2
	case Colours:
		return 3
	case ColoursCover:
		return 4
	}
	return 0
}

// mayHave says whether samples of a kind may have so many bits.
func (k Kind) mayHave(depth int) bool {
	switch depth {
	case 1, 2, 4:
		return k == Grey || k == Indices
	case 8:
		return k.Samples() > 0
	case 16:
		return k.Samples() > 0 && k != Indices
	}
	return false
}

// Head is what the first chunk says.
type Head struct {
	Width, Height int
	Depth         int // how many bits a sample has
	Kind          Kind
	Interlaced    bool
}

// PixelBits is how many bits a pixel has.
func (h Head) PixelBits() int { return h.Depth * h.Kind.Samples() }

// Read reads a head out of the data of the first chunk.
func Read(data source.Bytes) (Head, error) {
	var h Head
	var err error
	if h.Width, err = readSide(data); err != nil {
		return Head{}, err
	}
	if h.Height, err = readSide(data); err != nil {
		return Head{}, err
	}
	if h.Depth, h.Kind, err = readSort(data); err != nil {
		return Head{}, err
	}
	if err := source.Expect(data, "\x00\x00", "another way to pack or to filter"); err != nil {
		return Head{}, err
	}
	if h.Interlaced, err = readInterlaced(data); err != nil {
		return Head{}, err
	}
	return h, nil
}

// readSide reads a width or a height.
func readSide(data source.Bytes) (int, error) {
	side, err := source.Count(data)
	if err != nil {
		return 0, err
	}
	if side == 0 {
		return 0, fault.NewMalformed("a picture without pixels")
	}
	return side, nil
}

// readSort reads a depth and a kind, which must fit.
func readSort(data source.Bytes) (int, Kind, error) {
	depth, err := source.Need(data)
	if err != nil {
		return 0, 0, err
	}
	// Grey has every depth that there is.
	if !Grey.mayHave(int(depth)) {
		return 0, 0, fault.NewMalformed("a depth that no kind has")
	}
	kind, err := source.Need(data)
	if err != nil {
		return 0, 0, err
	}
	if !Kind(kind).mayHave(int(depth)) {
		return 0, 0, fault.NewMalformed("a kind with a depth that it may not have")
	}
	return int(depth), Kind(kind), nil
}

func readInterlaced(data source.Bytes) (bool, error) {
	b, err := source.Need(data)
	if err != nil {
		return false, err
	}
	if b > 1 {
		return false, fault.NewMalformed("another way to interlace")
	}
	return b == 1, nil
}
