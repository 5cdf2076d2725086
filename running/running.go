// Package running: check sums of bytes that come one at a time.
package running

const adlerBase = 65521

// Adler is the Adler sum of the bytes so far: in its upper half the sum of
// sums, in its lower half the sum of bytes, both below adlerBase.
type Adler uint32

// NoBytes is the Adler sum of no byte.
const NoBytes Adler = 1

// Add is the sum with one more byte.
func (s Adler) Add(b byte) Adler {
	bytes := s&0xffff + Adler(b)
	if bytes >= adlerBase {
		bytes -= adlerBase
	}
	sums := s>>16 + bytes
	if sums >= adlerBase {
		sums -= adlerBase
	}
	return sums<<16 | bytes
}

// crcOfNibble has, for each value of four bits, what four steps of the
// division leave of it. Half a byte at a time keeps the table short enough
// to be written out, and still takes two steps a byte in place of eight.
var crcOfNibble = [16]uint32{
	0x00000000, 0x1db71064, 0x3b6e20c8, 0x26d930ac,
	0x76dc4190, 0x6b6b51f4, 0x4db26158, 0x5005713c,
	0xedb88320, 0xf00f9344, 0xd6d6a3e8, 0xcb61b38c,
	0x9b64c2b0, 0x86d3d2d4, 0xa00ae278, 0xbdbdf21c,
}

// Crc is the CRC sum of the bytes so far; that of no byte is 0.
type Crc uint32

// CrcOf is the CRC sum of the bytes of a text.
func CrcOf(s string) Crc {
	var sum Crc
	for i := range len(s) {
		sum = sum.Add(s[i])
	}
	return sum
}

// Add is the sum with one more byte.
func (s Crc) Add(b byte) Crc {
	// A sum has all bits of the rest turned over: so they are turned back to
	// go on with the division.
	rest := ^uint32(s) ^ uint32(b)
	rest = rest>>4 ^ crcOfNibble[rest&15]
	rest = rest>>4 ^ crcOfNibble[rest&15]
	return Crc(^rest)
}
