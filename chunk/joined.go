package chunk

import "vellum/fault"

// Joined is a source of the data of chunks of one type that stand right behind
// each other, beginning with the one at hand.
type Joined struct {
	chunks *Reader
	name   string
	behind May
}

// Join makes a source of the data of the chunk at hand and of those of its type
// that follow it. Behind says which types may follow where the data may end.
func Join(chunks *Reader, behind May) *Joined {
	return &Joined{chunks: chunks, name: chunks.Type(), behind: behind}
}

// NextByte takes the next byte, out of whichever chunk has it. It is asked for
// where the data may not end: so no chunk of another type may come ahead of it.
func (j *Joined) NextByte() (byte, error) {
	for j.chunks.Left() == 0 {
		if err := j.chunks.Next(j.same); err != nil {
			return 0, err
		}
	}
	return j.chunks.NextByte()
}

func (j *Joined) same(letters string) bool { return OneOf(letters, j.name) }

// NoMore goes on to the chunk behind the data. It takes no byte of them: that a
// chunk has some settles that there are bytes too many.
func (j *Joined) NoMore() error {
	for j.chunks.Type() == j.name {
		if j.chunks.Left() > 0 {
			return fault.NewMalformed("there are bytes too many")
		}
		if err := j.chunks.Next(j.behind); err != nil {
			return err
		}
	}
	return nil
}
