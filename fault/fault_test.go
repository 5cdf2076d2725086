package fault

import (
	"errors"
	"testing"

	"vellum/api"
)

func TestErrnoAsksThroughAllLayers(t *testing.T) {
	for _, c := range []struct {
		err  error
		want api.Errno
	}{
		{nil, api.OK},
		{NewMalformed("sort 3"), api.ErrMalformed},
		{TooLarge, api.ErrTooLarge},
		{Failed, api.ErrSource},
		{End, api.ErrMalformed},
		{errors.New("a source's own"), api.ErrSource},
	} {
		err := c.err
		for layer := range 4 {
			if got := Errno(err); got != c.want {
				t.Errorf("%v: %d, want %d", err, got, c.want)
			}
			if c.err == nil {
				break
			}
			err = At("layer", layer, err)
		}
	}
}

func TestPlacesAreToldFromTheOutside(t *testing.T) {
	err := At("chunk", 3, At("block", 0, At("bit", 17, NewMalformed("sort 3"))))
	if got, want := err.Error(), "chunk 3: block 0: bit 17: malformed: sort 3"; got != want {
		t.Errorf("%q, want %q", got, want)
	}
	var place *Place
	if !errors.As(err, &place) || place.Unit != "chunk" || place.Number != 3 {
		t.Errorf("the outermost place: %+v", place)
	}
	if !errors.Is(At("bit", 1, Failed), Failed) || errors.Is(At("bit", 1, Failed), End) {
		t.Error("a layer hides what is inside")
	}
}
