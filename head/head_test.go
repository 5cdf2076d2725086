package head

import (
	"errors"
	"fmt"
	"testing"

	"vellum/fault"
	"vellum/given"
	"vellum/source"
)

func TestRead(t *testing.T) {
	for _, c := range []struct {
		data string
		want Head
		bits int
	}{
		{"\x00\x00\x00\x01\x00\x00\x00\x02\x08\x00\x00\x00\x00", Head{1, 2, 8, Grey, false}, 8},
		{"\x01\x02\x03\x04\x05\x06\x07\x08\x01\x00\x00\x00\x01", Head{16909060, 84281096, 1, Grey, true}, 1},
		{"\x7f\xff\xff\xff\x7f\xff\xff\xff\x10\x02\x00\x00\x00", Head{2147483647, 2147483647, 16, Colours, false}, 48},
		{"\x00\x00\x00\x01\x00\x00\x00\x01\x02\x03\x00\x00\x01", Head{1, 1, 2, Indices, true}, 2},
		{"\x00\x00\x00\x01\x00\x00\x00\x01\x08\x04\x00\x00\x00", Head{1, 1, 8, GreyCover, false}, 16},
		{"\x00\x00\x00\x01\x00\x00\x00\x01\x10\x06\x00\x00\x00", Head{1, 1, 16, ColoursCover, false}, 64},
	} {
		got, err := Read(source.OfText(c.data))
		if got != c.want || err != nil || got.PixelBits() != c.bits {
			t.Errorf("%x: %+v, %v, %d bits; want %+v, %d", c.data, got, err, got.PixelBits(), c.want, c.bits)
		}
	}
}

func TestKindsAndTheirDepths(t *testing.T) {
	may := map[Kind]string{Grey: "1 2 4 8 16 ", Colours: "8 16 ", Indices: "1 2 4 8 ", GreyCover: "8 16 ", ColoursCover: "8 16 "}
	samples := map[Kind]int{Grey: 1, Colours: 3, Indices: 1, GreyCover: 2, ColoursCover: 4}
	for k := range 256 {
		kind := Kind(k)
		depths := ""
		for depth := range 256 {
			if kind.mayHave(depth) {
				depths += fmt.Sprint(depth) + " "
			}
		}
		if depths != may[kind] || kind.Samples() != samples[kind] {
			t.Errorf("kind %d: %d samples, of the depths %s", k, kind.Samples(), depths)
		}
	}
}

// What may not be is told as soon as it is read: the source fails right behind.
func TestNumbersThatMayNotBe(t *testing.T) {
	const sides = "\x00\x00\x00\x01\x00\x00\x00\x01"
	var malformed *fault.Malformed
	for _, data := range []string{"\x80", "\x00\x00\x00\x00", "\x00\x00\x00\x01\x80", "\x00\x00\x00\x01\x00\x00\x00\x00", sides + "\x00", sides + "\x03", sides + "\x20", sides + "\x08\x01", sides + "\x08\x05", sides + "\x08\x07", sides + "\x04\x02", sides + "\x10\x03", sides + "\x08\x00\x01", sides + "\x08\x00\x00\x01", sides + "\x08\x00\x00\x00\x02"} {
		got, err := Read(&given.Source{Text: data, Behind: fault.Failed})
		if !errors.As(err, &malformed) || got != (Head{}) {
			t.Errorf("%x: %+v, %v", data, got, err)
		}
	}
	whole := sides + "\x08\x00\x00\x00\x00"
	for n := range Size {
		if got, err := Read(&given.Source{Text: whole[:n], Behind: fault.Failed}); !errors.Is(err, fault.Failed) || got != (Head{}) {
			t.Errorf("it fails behind %d bytes: %+v, %v", n, got, err)
		}
	}
}
