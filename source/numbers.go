package source

import "vellum/fault"

// Count reads a number of four bytes, at most 2147483647. One that is above is
// told behind its first byte, which settles it.
func Count(from Bytes) (int, error) {
	count := 0
	for i := range 4 {
		b, err := Need(from)
		if err != nil {
			return 0, err
		}
		if i == 0 && b > 127 {
			return 0, fault.NewMalformed("a number above 2147483647")
		}
		count = count<<8 | int(b)
	}
	return count, nil
}

// Short reads a number of two bytes, which must be below another one. That it
// is not may be told behind its first byte.
func Short(from Bytes, below int) (uint16, error) {
	number := 0
	for _, worth := range [2]int{256, 1} {
		b, err := Need(from)
		if err != nil {
			return 0, err
		}
		number += worth * int(b)
		if number >= below {
			return 0, fault.NewMalformed("a number that is too great")
		}
	}
	return uint16(number), nil
}

// Expect reads bytes that must be just those of a text.
func Expect(from Bytes, text string, why string) error {
	for i := range len(text) {
		b, err := Need(from)
		if err != nil {
			return err
		}
		if b != text[i] {
			return fault.NewMalformed(why)
		}
	}
	return nil
}
