package unpack

import (
	"vellum/bitrow"
	"vellum/fault"
	"vellum/running"
	"vellum/source"
)

// Wrapped unpacks a wrapped row, which is all that a source has, and which puts
// out just so many bytes.
func Wrapped(from source.Ending, size int, put Put) error {
	bits := bitrow.New(from)
	err := wrapped(bits, size, put)
	if err == nil {
		err = from.NoMore()
	}
	if err != nil {
		return fault.At("byte", bits.Taken(), err)
	}
	return nil
}

func wrapped(bits *bitrow.Reader, size int, put Put) error {
	window, err := readHead(bits)
	if err != nil {
		return err
	}
	sum := running.NoBytes
	u := newUnpacker(bits, window, size, func(b byte) error {
		sum = sum.Add(b)
		return put(b)
	})
	u.all = true
	if err := u.blocks(); err != nil {
		return err
	}
	return readSum(bits, uint32(sum))
}

// readHead reads the first two bytes, which say how great a distance may be.
func readHead(bits *bitrow.Reader) (int, error) {
	first, err := bits.Number(8)
	if err != nil {
		return 0, err
	}
	if first&15 != 8 || first>>4 > 7 {
		return 0, fault.NewMalformed("the first byte of a wrapped row")
	}
	second, err := bits.Number(8)
	if err != nil {
		return 0, err
	}
	if (first<<8|second)%31 != 0 || second&32 != 0 {
		return 0, fault.NewMalformed("the second byte of a wrapped row")
	}
	return 1 << (first>>4 + 8), nil
}

// readSum reads the Adler sum, which must be the one of what was put out.
func readSum(bits *bitrow.Reader, want uint32) error {
	bits.Align()
	for shift := 24; shift >= 0; shift -= 8 {
		b, err := bits.Number(8)
		if err != nil {
			return err
		}
		if byte(b) != byte(want>>shift) {
			return fault.NewMalformed("another Adler sum")
		}
	}
	return nil
}
