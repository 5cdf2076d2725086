// Package colour: what the samples of a pixel stand for: see DOC.md, 'Pictures'.
package colour

import (
	"slices"

	"vellum/fault"
	"vellum/head"
)

// Wholly is how far a pixel covers that covers wholly.
const Wholly = 65535

// Pixel is red, green, blue, and how far it covers.
type Pixel [4]uint16

// Colours says what samples stand for, by the head, PLTE and tRNS.
type Colours struct {
	head    head.Head
	entries []Pixel  // of PLTE
	covers  bool     // whether there was a tRNS
	clear   []uint16 // samples that do not cover at all
}

// New makes the colours of a picture without PLTE and tRNS.
func New(of head.Head) *Colours {
	return &Colours{head: of}
}

// full makes a sample of so many bits one of 16 bits.
func full(sample uint16, depth int) uint16 {
	return uint16(uint32(sample) * Wholly / (1<<depth - 1))
}

// Pixel is the pixel of as many samples as the kind has.
func (c *Colours) Pixel(samples []uint16) (Pixel, error) {
	if c.head.Kind == head.Indices {
		return c.entry(int(samples[0]))
	}
	cover := uint16(Wholly)
	if slices.Equal(samples, c.clear) {
		cover = 0
	}
	var s [4]uint16
	for i, sample := range samples {
		s[i] = full(sample, c.head.Depth)
	}
	switch c.head.Kind {
	case head.Grey:
		return Pixel{s[0], s[0], s[0], cover}, nil
	case head.GreyCover:
		return Pixel{s[0], s[0], s[0], s[1]}, nil
	case head.Colours:
		return Pixel{s[0], s[1], s[2], cover}, nil
	}
	return Pixel(s), nil
}

func (c *Colours) entry(index int) (Pixel, error) {
	if index >= len(c.entries) {
		return Pixel{}, fault.NewMalformed("an index that has no entry")
	}
	return c.entries[index], nil
}
