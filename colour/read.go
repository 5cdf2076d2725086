package colour

import (
	"vellum/chunk"
	"vellum/fault"
	"vellum/head"
	"vellum/source"
)

const mostEntries = 256

// ReadEntries reads a PLTE, which is the chunk at hand.
func (c *Colours) ReadEntries(data *chunk.Reader) error {
	if err := c.mayHaveEntries(data.Left()); err != nil {
		return err
	}
	for data.Left() > 0 {
		entry := Pixel{3: Wholly}
		for i := range 3 {
			b, err := source.Need(data)
			if err != nil {
				return err
			}
			entry[i] = full(uint16(b), 8)
		}
		c.entries = append(c.entries, entry)
	}
	return nil
}

// mayHaveEntries says whether a PLTE of so many bytes may stand here.
func (c *Colours) mayHaveEntries(size int) error {
	most := mostEntries
	switch c.head.Kind {
	case head.Grey, head.GreyCover:
		return fault.NewMalformed("a PLTE of grey pixels")
	case head.Indices:
		most = 1 << c.head.Depth
	}
	switch {
	case len(c.entries) > 0:
		return fault.NewMalformed("a second PLTE")
	case c.covers:
		return fault.NewMalformed("a PLTE behind a tRNS")
	case size < 3 || size > 3*most || size%3 != 0:
		return fault.NewMalformed("a PLTE that is too short or too long")
	}
	return nil
}

// ReadCover reads a tRNS, which is the chunk at hand.
func (c *Colours) ReadCover(data *chunk.Reader) error {
	if c.covers {
		return fault.NewMalformed("a second tRNS")
	}
	c.covers = true
	switch c.head.Kind {
	case head.Grey, head.Colours:
		return c.readClear(data)
	case head.Indices:
		return c.readCovers(data)
	}
	return fault.NewMalformed("a tRNS of pixels that tell how far they cover")
}

// readClear reads the samples of pixels that do not cover at all.
func (c *Colours) readClear(data *chunk.Reader) error {
	count := c.head.Kind.Samples()
	if data.Left() != 2*count {
		return fault.NewMalformed("a tRNS of another size")
	}
	for range count {
		sample, err := source.Short(data, 1<<c.head.Depth)
		if err != nil {
			return err
		}
		c.clear = append(c.clear, sample)
	}
	return nil
}

// readCovers reads how far the first entries cover.
func (c *Colours) readCovers(data *chunk.Reader) error {
	count := data.Left()
	if count < 1 || count > len(c.entries) {
		return fault.NewMalformed("a tRNS without bytes, or with more than there are entries")
	}
	for i := range count {
		b, err := source.Need(data)
		if err != nil {
			return err
		}
		c.entries[i][3] = full(uint16(b), 8)
	}
	return nil
}

// Whole says whether all is there that the pixels need.
func (c *Colours) Whole() error {
	if c.head.Kind == head.Indices && len(c.entries) == 0 {
		return fault.NewMalformed("indices without a PLTE")
	}
	return nil
}
