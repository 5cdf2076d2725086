package chunk

import "vellum/fault"

// Joined is a source of the data of chunks of one type that stand right behind
// each other, beginning with the one at hand. It ends when the next chunk, of
// another type, is at hand.
type Joined struct {
	chunks *Reader
	name   string
}

// Join makes a source of the data of the chunk at hand and of those of its type
// that follow it.
func Join(chunks *Reader) *Joined {
	return &Joined{chunks: chunks, name: chunks.Type()}
}

// NextByte takes the next byte, out of whichever chunk has it.
func (j *Joined) NextByte() (byte, error) {
	for j.chunks.Type() == j.name {
		if j.chunks.Left() > 0 {
			return j.chunks.NextByte()
		}
		if err := j.chunks.Next(); err != nil {
			return 0, err
		}
	}
	return 0, fault.End
}
