// Package codes: codes that come of lengths: see DOC.md, 'Packed bytes'.
package codes

import (
	"vellum/bitrow"
	"vellum/fault"
)

// MaxLength is the greatest length of a code.
const MaxLength = 15

// Fit is how lengths fit together.
type Fit int

const (
	Unfit  Fit = iota // none of the others
	Full              // every long row of bits begins with just one code
	Single            // there is just one code, of length 1
	None              // there is no code
)

// FitOf is how lengths, one a symbol and none above MaxLength, fit together.
func FitOf(lengths []uint8) Fit {
	// Of all rows of MaxLength bits, a code is the beginning of so many.
	codes, rows := 0, 0
	for _, length := range lengths {
		if length > 0 {
			codes++
			rows += 1 << (MaxLength - length)
		}
	}
	switch {
	case codes == 0:
		return None
	case rows == 1<<MaxLength:
		return Full
	case codes == 1 && rows == 1<<(MaxLength-1):
		return Single
	}
	return Unfit
}

// Table has the codes of some symbols, and for each of them a value: the symbol
// itself, or what it stands for.
type Table[T any] struct {
	longest int
	counts  [MaxLength + 1]int // how many codes each length has
	values  []T                // in the order of their codes
}

// New makes the table of lengths that are not unfit; value says what a symbol
// is to give.
func New[T any](lengths []uint8, value func(symbol int) T) *Table[T] {
	t := &Table[T]{}
	for _, length := range lengths {
		if length > 0 {
			t.counts[length]++
			t.longest = max(t.longest, int(length))
		}
	}
	var next [MaxLength + 1]int
	for length := 1; length < MaxLength; length++ {
		next[length+1] = next[length] + t.counts[length]
	}
	t.values = make([]T, next[MaxLength]+t.counts[MaxLength])
	for symbol, length := range lengths {
		if length > 0 {
			t.values[next[length]] = value(symbol)
			next[length]++
		}
	}
	return t
}

// Read reads a code and gives the value of its symbol. It reads no bit more
// than are needed to tell that they are a code, or that none begins so.
func (t *Table[T]) Read(bits *bitrow.Reader) (T, error) {
	var none T
	code, first, shorter := 0, 0, 0
	for length := 1; length <= t.longest; length++ {
		bit, err := bits.Bit()
		if err != nil {
			return none, err
		}
		// The codes of one length are numbers one after the other, from the
		// first one on; so its place among them tells a code's value.
		code = code<<1 | bit
		first <<= 1
		if place := code - first; place < t.counts[length] {
			return t.values[shorter+place], nil
		}
		shorter += t.counts[length]
		first += t.counts[length]
	}
	return none, fault.NewMalformed("no code begins like this")
}
