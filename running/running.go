// Package running: check sums of bytes that come one at a time.
package running

const adlerBase = 65521

// Adler is the Adler sum of the bytes so far: in its upper half the sum of
// sums, in its lower half the sum of bytes, both below adlerBase.
type Adler uint32

// NoBytes is the Adler sum of no byte.
const NoBytes Adler = 1

// Add is the sum with one more byte.
func (s Adler) Add(b byte) Adler {
	bytes := s&0xffff + Adler(b)
	if bytes >= adlerBase {
		bytes -= adlerBase
	}
	sums := s>>16 + bytes
	if sums >= adlerBase {
		sums -= adlerBase
	}
	return sums<<16 | bytes
}
