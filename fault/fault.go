// Package fault: what goes wrong, told with where it was.
package fault

import (
	"errors"
	"strconv"

	"vellum/api"
)

// A source of bytes answers with one of these two when it has no byte to give.
var (
	End    = errors.New("the source is at its end")
	Failed = errors.New("the source has failed")
)

// Silent is a source that gave no byte too often: one that has failed as well.
type Silent struct {
	Times int
}

func (s *Silent) Error() string {
	return "no byte came " + strconv.Itoa(s.Times) + " times: " + Failed.Error()
}

func (s *Silent) Unwrap() error { return Failed }

// TooLarge is a picture that has more pixels than it may have.
var TooLarge = errors.New("more pixels than there may be")

// Malformed is a stream that is not as it must be.
type Malformed struct {
	Why string
}

func (m *Malformed) Error() string { return "malformed: " + m.Why }

// NewMalformed makes an error of a stream that is not as it must be.
func NewMalformed(why string) error { return &Malformed{Why: why} }

// Place is a layer around an error: where it was, as the layer counts.
type Place struct {
	Unit   string
	Number int
	Err    error
}

func (p *Place) Error() string {
	return p.Unit + " " + strconv.Itoa(p.Number) + ": " + p.Err.Error()
}

func (p *Place) Unwrap() error { return p.Err }

// At lays a place around an error.
func At(unit string, number int, err error) error {
	return &Place{Unit: unit, Number: number, Err: err}
}

// Errno is what a call tells of an error, whatever layers are around it.
func Errno(err error) api.Errno {
	var malformed *Malformed
	switch {
	case err == nil:
		return api.OK
	case errors.Is(err, Failed):
		return api.ErrSource
	case errors.As(err, &malformed):
		return api.ErrMalformed
	case errors.Is(err, TooLarge):
		return api.ErrTooLarge
	case errors.Is(err, End):
		// An end that nobody was waiting for came too early.
		return api.ErrMalformed
	}
	// What is left is an error that a source made for itself: it failed too.
	return api.ErrSource
}
