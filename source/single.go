package source

import (
	"vellum/api"
	"vellum/fault"
)

// Single gives the bytes of a giver, one at a time. It never asks for more than
// the one that is wanted: what stands behind it may fail, and may not be needed.
type Single struct {
	from  Giver
	taken int
}

// OneByOne makes a source of the bytes of a giver.
func OneByOne(from Giver) *Single {
	return &Single{from: from}
}

// NextByte asks for a byte until it comes. A giver that has none at all too
// often, and is not at its end, has failed.
func (s *Single) NextByte() (byte, error) {
	b, err := s.ask()
	if err != nil {
		return 0, fault.At("source byte", s.taken, err)
	}
	s.taken++
	return b, nil
}

func (s *Single) ask() (byte, error) {
	for range api.MaxEmpty + 1 {
		bytes, err := s.from.Give(1)
		if err != nil {
			return 0, err
		}
		if bytes != "" {
			return bytes[0], nil
		}
	}
	return 0, &fault.Silent{Times: api.MaxEmpty + 1}
}
