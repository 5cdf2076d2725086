// Package paint: rows of samples become the pixels of an image.
package paint

import (
	"vellum/api"
	"vellum/colour"
	"vellum/fault"
	"vellum/head"
	"vellum/rows"
)

// Canvas is an image whose rows come one after the other.
type Canvas struct {
	head    head.Head
	colours *colour.Colours
	pix     []uint16
}

// New makes a canvas of a picture.
func New(of head.Head, colours *colour.Colours) *Canvas {
	return &Canvas{head: of, colours: colours, pix: make([]uint16, 4*of.Width*of.Height)}
}

// Image is what was painted.
func (c *Canvas) Image() api.Image {
	return api.Image{Width: c.head.Width, Height: c.head.Height, Pix: c.pix}
}

// Row paints the y-th row of a part.
func (c *Canvas) Row(part rows.Part, y int, row []byte) error {
	left := (part.Y + y*part.StepY) * c.head.Width
	count := c.head.Kind.Samples()
	var all [4]uint16
	samples := all[:count]
	for i := range part.Width {
		for k := range samples {
			samples[k] = sample(row, i*count+k, c.head.Depth)
		}
		pixel, err := c.colours.Pixel(samples)
		if err != nil {
			return fault.At("pixel", i, err)
		}
		copy(c.pix[4*(left+part.X+i*part.StepX):], pixel[:])
	}
	return nil
}

// sample is the i-th sample of a row, of so many bits.
func sample(row []byte, i, depth int) uint16 {
	if depth == 16 {
		return uint16(row[2*i])<<8 | uint16(row[2*i+1])
	}
	first := i * depth
	// The first bit is the highest one: so the sample stands above those that
	// share its byte with it.
	behind := 8 - depth - first%8
	return uint16(row[first/8]) >> behind & (1<<depth - 1)
}
