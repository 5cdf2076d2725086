package fault

import (
	"errors"
	"testing"

	"vellum/api"
)

func TestErrnoAsksThroughAllLayers(t *testing.T) {
	for _, c := range []struct {
		err  error
		want api.Errno
	}{
		{nil, api.OK},
		{NewMalformed("sort 3"), api.ErrMalformed},
		{TooLarge, api.ErrTooLarge},
		{Failed, api.ErrSource},
		{&Silent{Times: 101}, api.ErrSource},
		{End, api.ErrMalformed},
		{errors.New("a source's own"), api.ErrSource},
	} {
		err := c.err
		for layer := range 4 {
			if got := Errno(err); got != c.want {
				t.Errorf("%v: %d, want %d", err, got, c.want)
			}
			if c.err == nil {
				break
			}
			err = At("layer", layer, err)
		}
	}
}

// A source that was silent too long is one that has failed; and it can be asked
// for, with how often no byte came.
func TestSilentSourceHasFailed(t *testing.T) {
	err := At("chunk", 1, At("source byte", 40, &Silent{Times: 101}))
	var silent *Silent
	if !errors.Is(err, Failed) || errors.Is(err, End) || !errors.As(err, &silent) || silent.Times != 101 {
		t.Errorf("%v", err)
	}
	if want := "chunk 1: source byte 40: no byte came 101 times: the source has failed"; err.Error() != want {
		t.Errorf("%q, want %q", err.Error(), want)
	}
}

func TestPlacesAreToldFromTheOutside(t *testing.T) {
	err := At("chunk", 3, At("block", 0, At("bit", 17, NewMalformed("sort 3"))))
	if got, want := err.Error(), "chunk 3: block 0: bit 17: malformed: sort 3"; got != want {
		t.Errorf("%q, want %q", got, want)
	}
	var place *Place
	if !errors.As(err, &place) || place.Unit != "chunk" || place.Number != 3 {
		t.Errorf("the outermost place: %+v", place)
	}
	if !errors.Is(At("bit", 1, Failed), Failed) || errors.Is(At("bit", 1, Failed), End) {
		t.Error("a layer hides what is inside")
	}
}
