// Package sum: two check sums: see DOC.md.
package sum

import "vellum/running"

// Crc is the CRC sum of a text (P3).
func Crc(s string) uint32 {
	return uint32(running.CrcOf(s))
}

// Adler is the Adler sum of a text (P4).
func Adler(s string) uint32 {
	sum := running.NoBytes
	for i := range len(s) {
		sum = sum.Add(s[i])
	}
	return uint32(sum)
}
