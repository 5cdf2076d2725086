package source

import "vellum/fault"

// Text is a source of the bytes of a text.
type Text struct {
	rest string
}

// OfText makes a source of the bytes of a text.
func OfText(s string) *Text {
	return &Text{rest: s}
}

// NextByte takes the next byte; at the end of the text it answers fault.End.
func (t *Text) NextByte() (byte, error) {
	if t.rest == "" {
		return 0, fault.End
	}
	b := t.rest[0]
	t.rest = t.rest[1:]
	return b, nil
}

// NoMore is an error if a byte is left.
func (t *Text) NoMore() error { return NoMore(t) }
