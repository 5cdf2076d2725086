// Package chunk: the chunks of a picture, out of any source of bytes: see
// DOC.md, 'Pictures'.
package chunk

import (
	"vellum/fault"
	"vellum/running"
	"vellum/source"
)

const opening = "\x89PNG\r\n\x1a\n"

// Reader reads chunks, one behind the other: of the one at hand how many bytes
// it has and its type (Begin), its data (NextByte), and its sum (Finish). It
// takes no byte out of its source ahead of need.
type Reader struct {
	from   source.Bytes
	number int
	name   string      // the type of the chunk at hand
	left   int         // how many bytes of its data were not read yet
	sum    running.Crc // of what was read of its type and data
}

// New makes a reader of the chunks of a source.
func New(from source.Bytes) *Reader {
	return &Reader{from: from, number: -1}
}

// Number is how many chunks stand ahead of the one at hand; -1 ahead of all.
func (r *Reader) Number() int { return r.number }

// Type is the type of the chunk at hand.
func (r *Reader) Type() string { return r.name }

// Left is how many bytes of the data of the chunk at hand were not read yet.
func (r *Reader) Left() int { return r.left }

// Open reads the eight bytes that stand ahead of the first chunk.
func (r *Reader) Open() error {
	return source.Expect(r.from, opening, "it does not begin as a picture does")
}

// BeginAs reads how many bytes the next chunk has, and its type, where there is
// only one that may be.
func (r *Reader) BeginAs(name string, size int) error {
	r.number++
	if err := source.Expect(r.from, fourBytes(uint32(size))+name, "no "+name+" of its size"); err != nil {
		return err
	}
	r.name, r.left, r.sum = name, size, running.CrcOf(name)
	return nil
}

// Begin reads how many bytes the next chunk has, and its type, which must be one
// that may stand there.
func (r *Reader) Begin(may May) error {
	r.number++
	left, err := source.Count(r.from)
	if err != nil {
		return err
	}
	name, err := readType(r.from, may)
	if err != nil {
		return err
	}
	r.name, r.left, r.sum = name, left, running.CrcOf(name)
	return nil
}

// NextByte reads a byte of the data of the chunk at hand; behind the last one
// it answers fault.End.
func (r *Reader) NextByte() (byte, error) {
	if r.left == 0 {
		return 0, fault.End
	}
	b, err := source.Need(r.from)
	if err != nil {
		return 0, err
	}
	r.left--
	r.sum = r.sum.Add(b)
	return b, nil
}

// Finish passes over what is left of the data of the chunk at hand, and reads
// its sum.
func (r *Reader) Finish() error {
	for r.left > 0 {
		if _, err := r.NextByte(); err != nil {
			return err
		}
	}
	return source.Expect(r.from, fourBytes(uint32(r.sum)), "another CRC sum")
}

func fourBytes(n uint32) string {
	return string([]byte{byte(n >> 24), byte(n >> 16), byte(n >> 8), byte(n)})
}

// Next goes on to the next chunk, which must be one that may stand there.
func (r *Reader) Next(may May) error {
	if err := r.Finish(); err != nil {
		return err
	}
	return r.Begin(may)
}

// End asks whether nothing stands behind the chunk at hand.
func (r *Reader) End() error {
	return source.NoMore(r.from)
}
