// Package given: what tests of the other packages hand in. No other package
// leans on it.
package given

import "vellum/sum"

// Source is a source of a text that answers with an error behind it.
type Source struct {
	Text   string
	Behind error
	Asked  int // how often it was asked for a byte
}

// NextByte gives the next byte of the text.
func (s *Source) NextByte() (byte, error) {
	s.Asked++
	if s.Asked > len(s.Text) {
		return 0, s.Behind
	}
	return s.Text[s.Asked-1], nil
}

// Four writes a number as four bytes.
func Four(n int) string {
	return string([]byte{byte(n >> 24), byte(n >> 16), byte(n >> 8), byte(n)})
}

// Chunk writes a chunk with its right sum.
func Chunk(name, data string) string {
	return Four(len(data)) + name + data + Four(int(sum.Crc(name+data)))
}
