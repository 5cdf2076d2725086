// Package source: where bytes come from.
package source

import (
	"errors"

	"vellum/fault"
)

// Bytes gives bytes, one at a time. If it has none to give, it answers with
// fault.End or fault.Failed, or with an error around one of them.
type Bytes interface {
	NextByte() (byte, error)
}

// Ending gives bytes of which none may be left over.
type Ending interface {
	Bytes
	// NoMore is an error if there is a further byte.
	NoMore() error
}

// Need takes the next byte where there must be one.
func Need(from Bytes) (byte, error) {
	b, err := from.NextByte()
	if errors.Is(err, fault.End) {
		return 0, fault.NewMalformed("it ends too early")
	}
	return b, err
}

// NoMore asks for a byte where there must be none.
func NoMore(from Bytes) error {
	_, err := from.NextByte()
	switch {
	case err == nil:
		return fault.NewMalformed("there are bytes too many")
	case errors.Is(err, fault.End):
		return nil
	}
	return err
}
