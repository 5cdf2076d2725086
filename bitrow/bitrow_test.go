package bitrow

import (
	"errors"
	"testing"

	"vellum/fault"
	"vellum/given"
)

func number(t *testing.T, r *Reader, width uint, want int) {
	t.Helper()
	if got, err := r.Number(width); got != want || err != nil {
		t.Errorf("a number of %d bits: %d, %v, want %d", width, got, err, want)
	}
}

func TestNumbersHaveTheirLowestBitFirst(t *testing.T) {
	r := New(&given.Source{Text: "\xb1\xff\x34\x12\xc0", Behind: fault.End})
	number(t, r, 3, 1)
	number(t, r, 0, 0)
	number(t, r, 7, 0b11_10110)
	number(t, r, 6, 63)
	number(t, r, 16, 0x1234)
	for _, want := range []int{0, 0, 0, 0, 0, 0, 1, 1} {
		if bit, err := r.Bit(); bit != want || err != nil {
			t.Errorf("a bit: %d, %v, want %d", bit, err, want)
		}
	}
}

// No byte is asked for ahead of the first bit that is wanted of it.
func TestNoByteIsTakenAheadOfNeed(t *testing.T) {
	source := &given.Source{Text: "\x01\x02\x03\x04\x05\x06", Behind: fault.Failed}
	r := New(source)
	taken := func(bytes, bits int) {
		t.Helper()
		if source.Asked != bytes || r.Taken() != bytes || r.Position() != bits {
			t.Errorf("asked %d, taken %d, position %d, want %d, %d and %d", source.Asked, r.Taken(), r.Position(), bytes, bytes, bits)
		}
	}
	taken(0, 0)
	r.Bit()
	taken(1, 1)
	r.Number(7)
	taken(1, 8)
	r.Align()
	taken(1, 8)
	r.Number(16)
	taken(3, 24)
	r.Number(1)
	taken(4, 25)
	r.Align()
	taken(4, 32)
	number(t, r, 8, 5)
	taken(5, 40)
}

func TestSourceWithoutBytes(t *testing.T) {
	own := errors.New("its own")
	for _, behind := range []error{fault.End, fault.Failed, fault.At("chunk", 2, fault.End), fault.At("chunk", 2, fault.Failed), own} {
		early := errors.Is(behind, fault.End)
		for _, read := range []func(*Reader) error{
			func(r *Reader) error { _, err := r.Bit(); return err },
			func(r *Reader) error { _, err := r.Number(9); return err },
		} {
			r := New(&given.Source{Text: "\xff", Behind: behind})
			r.Number(8)
			err := read(r)
			var malformed *fault.Malformed
			if errors.As(err, &malformed) != early || !early && err != behind {
				t.Errorf("behind the last byte comes %v: %v", behind, err)
			}
		}
	}
}
