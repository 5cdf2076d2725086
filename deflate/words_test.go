package deflate

import (
	"errors"
	"slices"
)

// This file unpacks by the document's words, as slowly as they are read, with
// codes as texts of digits and the whole of what was put out at hand. The
// program is held against it.

var errWords = errors.New("not as the document says")

type words struct {
	bits string // digits, the first one first
	at   int
	out  []byte
}

// bitsOf writes the bits of bytes as digits, of each byte the lowest first.
func bitsOf(s string) string {
	digits := make([]byte, 0, 8*len(s))
	for i := range len(s) {
		for k := range 8 {
			digits = append(digits, '0'+s[i]>>k&1)
		}
	}
	return string(digits)
}

func (w *words) number(width int) int {
	if w.at+width > len(w.bits) {
		panic(errWords)
	}
	value := 0
	for i := range width {
		value += int(w.bits[w.at+i]-'0') << i
	}
	w.at += width
	return value
}

// must stops the unpacking where the document says that something must be.
func must(what bool) {
	if !what {
		panic(errWords)
	}
}

func (w *words) symbol(codes []string) int {
	for width := range 16 {
		if w.at+width > len(w.bits) {
			break
		}
		if symbol := slices.Index(codes, w.bits[w.at:w.at+width]); width > 0 && symbol >= 0 {
			w.at += width
			return symbol
		}
	}
	panic(errWords)
}

// isFull says whether every row of 15 bits begins with just one code.
func isFull(lengths []int) bool {
	rows := 0
	for _, length := range lengths {
		if length > 0 {
			rows += 32768 >> length
		}
	}
	return rows == 32768
}

// isOnly says whether just one symbol has a code, of length 1.
func isOnly(lengths []int) bool {
	used := slices.DeleteFunc(slices.Clone(lengths), func(length int) bool { return length == 0 })
	return slices.Equal(used, []int{1})
}

func (w *words) ownLengths() (literals, distances []int) {
	countLiterals := w.number(5) + 257
	must(countLiterals <= 286)
	countDistances := w.number(5) + 1
	must(countDistances <= 30)
	listed := w.number(4) + 4
	forLengths := make([]int, 19)
	for _, symbol := range lengthOrderOfDoc[:listed] {
		forLengths[symbol] = w.number(3)
	}
	must(isFull(forLengths))
	codes := codesOf(forLengths)
	var lengths []int
	for len(lengths) < countLiterals+countDistances {
		switch symbol := w.symbol(codes); symbol {
		case 16:
			must(len(lengths) > 0)
			lengths = append(lengths, slices.Repeat(lengths[len(lengths)-1:], 3+w.number(2))...)
		case 17:
			lengths = append(lengths, make([]int, 3+w.number(3))...)
		case 18:
			lengths = append(lengths, make([]int, 11+w.number(7))...)
		default:
			lengths = append(lengths, symbol)
		}
	}
	must(len(lengths) == countLiterals+countDistances)
	return lengths[:countLiterals], lengths[countLiterals:]
}

func (w *words) symbols(literals, distances []string, window, most int) {
	for {
		symbol := w.symbol(literals)
		if symbol == 256 {
			return
		}
		if symbol < 256 {
			w.out = append(w.out, byte(symbol))
			must(len(w.out) <= most)
			continue
		}
		must(symbol <= 285)
		length := lengthsOfDoc[symbol-257].least + w.number(lengthsOfDoc[symbol-257].bits)
		symbol = w.symbol(distances)
		must(symbol < 30)
		distance := distancesOfDoc[symbol].least + w.number(distancesOfDoc[symbol].bits)
		must(distance <= window && distance <= len(w.out))
		for range length {
			w.out = append(w.out, w.out[len(w.out)-distance])
		}
		must(len(w.out) <= most)
	}
}

func (w *words) block(window, most int) (last bool) {
	last = w.number(1) == 1
	switch w.number(2) {
	case 0:
		w.at = (w.at + 7) / 8 * 8
		count := w.number(16)
		must(w.number(16) == 65535-count)
		for range count {
			w.out = append(w.out, byte(w.number(8)))
		}
		must(len(w.out) <= most)
	case 1:
		fixed := (&packer{}).fixed(false)
		w.symbols(fixed.literals, fixed.distances, window, most)
	case 2:
		literals, distances := w.ownLengths()
		must(isFull(literals) || isOnly(literals))
		must(literals[256] > 0)
		must(isFull(distances) || isOnly(distances) || slices.Max(distances) == 0)
		w.symbols(codesOf(literals), codesOf(distances), window, most)
	default:
		panic(errWords)
	}
	return last
}

// inflateByWords is P5 for numbers that may be.
func inflateByWords(s string, window, most int) (out string, taken int, ok bool) {
	defer func() {
		if stop := recover(); stop != nil {
			if stop != errWords {
				panic(stop)
			}
			out, taken, ok = "", 0, false
		}
	}()
	w := &words{bits: bitsOf(s)}
	for !w.block(window, most) {
	}
	return string(w.out), (w.at + 7) / 8, true
}
