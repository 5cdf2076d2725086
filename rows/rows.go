package rows

import (
	"vellum/fault"
	"vellum/head"
)

// Take takes the bytes so far of a row, the filter undone: of the y-th one of a
// part. It is called with each byte that comes, so that one that may not be is
// told at once. It may not keep the bytes. With an error no further ones come.
type Take func(part Part, y int, sofar []byte) error

// Rows puts the rows of a picture together out of single bytes.
type Rows struct {
	bits  int // of a pixel
	parts []Part
	take  Take
	part  int // the part at hand
	y     int // which of its rows is at hand
	told  int // how many rows are whole, of all parts
	line  line
}

// New makes the rows of a picture, which are taken as their bytes come.
func New(of head.Head, take Take) *Rows {
	r := &Rows{bits: of.PixelBits(), parts: Parts(of), take: take}
	r.beginPart()
	return r
}

// Size is how many bytes all rows have, with their filters.
func (r *Rows) Size() int {
	size := 0
	for _, part := range r.parts {
		size += part.Height * (1 + r.bytesOf(part))
	}
	return size
}

// bytesOf is how many bytes a row of a part has, without its filter.
func (r *Rows) bytesOf(part Part) int { return (part.Width*r.bits + 7) / 8 }

func (r *Rows) beginPart() {
	if r.part < len(r.parts) {
		r.line = newLine(r.bytesOf(r.parts[r.part]), max(1, r.bits/8))
	}
}

// Put takes the next byte.
func (r *Rows) Put(b byte) error {
	if err := r.put(b); err != nil {
		return fault.At("row", r.told, err)
	}
	return nil
}

func (r *Rows) put(b byte) error {
	if r.part == len(r.parts) {
		return fault.NewMalformed("a byte behind the last row")
	}
	if err := r.line.put(b); err != nil {
		return err
	}
	if sofar := r.line.sofar(); len(sofar) > 0 {
		if err := r.take(r.parts[r.part], r.y, sofar); err != nil {
			return err
		}
	}
	if r.line.whole() {
		r.goOn()
	}
	return nil
}

// goOn goes on to the next row, of this part or of the next one.
func (r *Rows) goOn() {
	r.told++
	r.y++
	if r.y < r.parts[r.part].Height {
		r.line.next()
		return
	}
	r.part, r.y = r.part+1, 0
	r.beginPart()
}
