// Package sum: two check sums: see DOC.md.
package sum

import "vellum/running"

// crcOfNibble has, for each value of four bits, what four steps of the
// division leave of it. Half a byte at a time keeps the table short enough
// to be written out, and still takes two steps a byte in place of eight.
var crcOfNibble = [16]uint32{
	0x00000000, 0x1db71064, 0x3b6e20c8, 0x26d930ac,
	0x76dc4190, 0x6b6b51f4, 0x4db26158, 0x5005713c,
	0xedb88320, 0xf00f9344, 0xd6d6a3e8, 0xcb61b38c,
	0x9b64c2b0, 0x86d3d2d4, 0xa00ae278, 0xbdbdf21c,
}

// Crc is the CRC sum of a text (P3).
func Crc(s string) uint32 {
	rest := ^uint32(0)
	for i := range len(s) {
		rest ^= uint32(s[i])
		rest = rest>>4 ^ crcOfNibble[rest&15]
		rest = rest>>4 ^ crcOfNibble[rest&15]
	}
	return ^rest
}

// Adler is the Adler sum of a text (P4).
func Adler(s string) uint32 {
	sum := running.NoBytes
	for i := range len(s) {
		sum = sum.Add(s[i])
	}
	return uint32(sum)
}
