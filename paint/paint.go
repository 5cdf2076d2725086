// Package paint: rows of samples become the pixels of an image.
package paint

import (
	"vellum/api"
	"vellum/colour"
	"vellum/fault"
	"vellum/head"
	"vellum/rows"
)

// Canvas is an image whose rows come one after the other, byte by byte.
type Canvas struct {
	head    head.Head
	colours *colour.Colours
	pix     []uint16
}

// New makes a canvas of a picture.
func New(of head.Head, colours *colour.Colours) *Canvas {
	return &Canvas{head: of, colours: colours, pix: make([]uint16, 4*of.Width*of.Height)}
}

// Image is what was painted.
func (c *Canvas) Image() api.Image {
	return api.Image{Width: c.head.Width, Height: c.head.Height, Pix: c.pix}
}

// Byte paints the pixels that get whole by the last one of the bytes so far of
// the y-th row of a part.
func (c *Canvas) Byte(part rows.Part, y int, sofar []byte) error {
	left := (part.Y+y*part.StepY)*c.head.Width + part.X
	bits := c.head.PixelBits()
	// The last byte may have bits behind the last pixel, which say nothing.
	end := min(8*len(sofar)/bits, part.Width)
	for i := 8 * (len(sofar) - 1) / bits; i < end; i++ {
		pixel, err := c.pixel(sofar, i)
		if err != nil {
			return fault.At("pixel", i, err)
		}
		copy(c.pix[4*(left+i*part.StepX):], pixel[:])
	}
	return nil
}

// pixel is the i-th one of a row.
func (c *Canvas) pixel(row []byte, i int) (colour.Pixel, error) {
	var all [4]uint16
	samples := all[:c.head.Kind.Samples()]
	for k := range samples {
		samples[k] = sample(row, i*len(samples)+k, c.head.Depth)
	}
	return c.colours.Pixel(samples)
}

// sample is the i-th sample of a row, of so many bits.
func sample(row []byte, i, depth int) uint16 {
	if depth == 16 {
		return uint16(row[2*i])<<8 | uint16(row[2*i+1])
	}
	first := i * depth
	// The first bit is the highest one: so the sample stands above those that
	// share its byte with it.
	behind := 8 - depth - first%8
	return uint16(row[first/8]) >> behind & (1<<depth - 1)
}
