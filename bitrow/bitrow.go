// Package bitrow: a row of bits out of any source of bytes.
package bitrow

import "vellum/source"

// Reader reads bits, of each byte the lowest first. It takes no byte out of
// its source ahead of the first bit that is wanted of it: so it can tell how
// many bytes were needed, and a source that fails later on does no harm.
type Reader struct {
	from  source.Bytes
	held  uint32 // bits that were taken and not yet read: the next one is the lowest
	count uint   // how many bits are held; behind each read fewer than 8
	taken int
}

// New makes a reader of the bits of a source.
func New(from source.Bytes) *Reader {
	return &Reader{from: from}
}

// Taken is how many bytes were taken out of the source.
func (r *Reader) Taken() int { return r.taken }

// Position is how many bits were read, or passed over.
func (r *Reader) Position() int { return 8*r.taken - int(r.count) }

// Bit reads one bit.
func (r *Reader) Bit() (int, error) {
	if r.count == 0 {
		if err := r.take(); err != nil {
			return 0, err
		}
	}
	bit := int(r.held & 1)
	r.held >>= 1
	r.count--
	return bit, nil
}

// Number reads a number of width bits, at most 16, its lowest bit first.
func (r *Reader) Number(width uint) (int, error) {
	for r.count < width {
		if err := r.take(); err != nil {
			return 0, err
		}
	}
	number := r.held & (1<<width - 1)
	r.held >>= width
	r.count -= width
	return int(number), nil
}

// Align passes over what is left of the byte at hand.
func (r *Reader) Align() {
	r.held, r.count = 0, 0
}

func (r *Reader) take() error {
	b, err := source.Need(r.from)
	if err != nil {
		return err
	}
	r.held |= uint32(b) << r.count
	r.count += 8
	r.taken++
	return nil
}
