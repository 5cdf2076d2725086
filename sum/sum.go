// Package sum: two check sums: see DOC.md.
package sum

// crcOfNibble has, for each value of four bits, what four steps of the
// division leave of it. Half a byte at a time keeps the table short enough
// to be written out, and still takes two steps a byte in place of eight.
var crcOfNibble = [16]uint32{
	0x00000000, 0x1db71064, 0x3b6e20c8, 0x26d930ac,
	0x76dc4190, 0x6b6b51f4, 0x4db26158, 0x5005713c,
	0xedb88320, 0xf00f9344, 0xd6d6a3e8, 0xcb61b38c,
	0x9b64c2b0, 0x86d3d2d4, 0xa00ae278, 0xbdbdf21c,
}

// Crc is the CRC sum of a text (P3).
func Crc(s string) uint32 {
	rest := ^uint32(0)
	for i := range len(s) {
		rest ^= uint32(s[i])
		rest = rest>>4 ^ crcOfNibble[rest&15]
		rest = rest>>4 ^ crcOfNibble[rest&15]
	}
	return ^rest
}

const (
	adlerBase = 65521

	// Of so many bytes, even if all are 255 and both sums begin at their
	// greatest, the second sum stays below 2 to the power 32: the modulo can
	// wait until behind them. Of one byte more it would not.
	adlerRun = 5552
)

// Adler is the Adler sum of a text (P4).
func Adler(s string) uint32 {
	a, b := uint32(1), uint32(0)
	for len(s) > 0 {
		n := min(len(s), adlerRun)
		a, b = adlerAdd(a, b, s[:n])
		s = s[n:]
	}
	return b<<16 | a
}

// adlerAdd adds the bytes of a run of at most adlerRun to both sums, which are
// below adlerBase ahead of it and behind it.
func adlerAdd(a, b uint32, run string) (uint32, uint32) {
	for i := range len(run) {
		a += uint32(run[i])
		b += a
	}
	return a % adlerBase, b % adlerBase
}
