package deflate

import (
	"fmt"
	"slices"
	"strings"
	"testing"

	"vellum/api"
)

// This file has the codes of a block's own (P5).

func ends(c *coded) { c.end() }

// halves has two literal symbols, with codes of length 1.
func halves(count int) []int { return lengthsOf(count, 'a', 1, 256, 1) }

func TestHowManySymbolsHaveLengths(t *testing.T) {
	for literals := 257; literals <= 288; literals++ {
		for _, distances := range []int{1, 29, 30, 31, 32} {
			packed := ownBlock(halves(literals), lengthsOf(distances, 0, 1), func(c *coded) {
				c.text("aaa")
				c.end()
			})
			name := fmt.Sprintf("%d literal and %d distance symbols", literals, distances)
			if literals <= 286 && distances <= 30 {
				puts(t, name, packed, api.MaxWindow, "aaa")
			} else {
				breaks(t, name, packed)
			}
		}
	}
}

func TestLengthsOfLiteralSymbols(t *testing.T) {
	eight := slices.Repeat([]int{8}, 256)
	steps := lengthsOf(257, 0, 15, 256, 15)
	for length := 1; length < 15; length++ {
		steps[length] = length
	}
	for _, c := range []struct {
		name    string
		lengths []int
		right   bool
	}{
		{"only 256, of length 1", lengthsOf(257, 256, 1), true},
		{"only 256, of length 2", lengthsOf(257, 256, 2), false},
		{"only 256, of length 15", lengthsOf(257, 256, 15), false},
		{"only another one, of length 1", lengthsOf(257, 'a', 1), false},
		{"none", lengthsOf(257), false},
		{"full, with 256", halves(257), true},
		{"full, without 256", lengthsOf(257, 'a', 1, 'b', 1), false},
		{"256 symbols, full, without 256", append(eight, 0), false},
		{"257 symbols, one too many", append(eight, 8), false},
		{"too few", lengthsOf(257, 'a', 2, 'b', 2, 256, 2), false},
		{"too few by one of length 15", lengthsOf(257, slices.Concat([]int{256, 15}, pairs(1, 14))...), false},
		{"every length", steps, true},
		{"one of length 15 too many", lengthsOf(257, 'a', 1, 'c', 15, 256, 1), false},
		{"three of length 1", lengthsOf(257, 'a', 1, 'b', 1, 256, 1), false},
	} {
		packed := ownBlock(c.lengths, lengthsOf(1), ends)
		if c.right {
			puts(t, "literal symbols: "+c.name, packed, api.MaxWindow, "")
		} else {
			breaks(t, "literal symbols: "+c.name, packed)
		}
	}
}

// pairs gives symbols from one number to another, each with itself as length.
func pairs(from, to int) []int {
	var list []int
	for i := from; i <= to; i++ {
		list = append(list, i, i)
	}
	return list
}

func TestOnlyTheEndHasACode(t *testing.T) {
	head := func() *packer {
		p := &packer{}
		p.own(true, lengthsOf(257, 256, 1), lengthsOf(1))
		return p
	}
	p := head()
	p.bit(0)
	puts(t, "only 256, and its code", p.packed(), api.MaxWindow, "")
	p = head()
	p.bit(1)
	breaks(t, "only 256, and another row of bits", p.packed())
}

func TestLengthsOfDistanceSymbols(t *testing.T) {
	for _, c := range []struct {
		name    string
		lengths []int
		right   bool
	}{
		{"none of one", lengthsOf(1), true},
		{"none of 30", lengthsOf(30), true},
		{"only the first, of length 1", lengthsOf(1, 0, 1), true},
		{"only the last, of length 1", lengthsOf(30, 29, 1), true},
		{"only one, of length 2", lengthsOf(30, 3, 2), false},
		{"only one, of length 15", lengthsOf(30, 3, 15), false},
		{"two of length 1", lengthsOf(30, 3, 1, 29, 1), true},
		{"three of length 1", lengthsOf(30, 3, 1, 4, 1, 29, 1), false},
		{"two of length 2", lengthsOf(30, 3, 2, 29, 2), false},
		{"three of length 2", lengthsOf(30, 3, 2, 4, 2, 29, 2), false},
		{"1, 2, 2", lengthsOf(30, 3, 1, 4, 2, 29, 2), true},
		{"1, 2, 2, and one of 15", lengthsOf(30, 3, 1, 4, 2, 5, 15, 29, 2), false},
		{"every length", lengthsOf(16, append(pairs(1, 15), 0, 15)...), true},
		{"every length but one", lengthsOf(16, pairs(1, 15)...), false},
	} {
		packed := ownBlock(halves(257), c.lengths, func(c *coded) { c.text("aa"); c.end() })
		if c.right {
			puts(t, "distance symbols: "+c.name, packed, api.MaxWindow, "aa")
		} else {
			breaks(t, "distance symbols: "+c.name, packed)
		}
	}
}

func TestDistanceSymbolsWithOneCodeOrNone(t *testing.T) {
	literals := lengthsOf(258, 'a', 1, 256, 2, 257, 2)
	block := func(distances []int, code string) string {
		return ownBlock(literals, distances, func(c *coded) {
			c.text("aaa")
			c.code(c.literals[257])
			c.code(code)
			c.end()
		})
	}
	for symbol, far := range []int{1, 2, 3} {
		one := lengthsOf(symbol+1, symbol, 1)
		puts(t, fmt.Sprintf("only the distance %d", far), block(one, "0"), far, "aaaaaa")
		breaks(t, fmt.Sprintf("only the distance %d, and another row of bits", far), block(one, "1"))
	}
	breaks(t, "no distance, and a row of bits", block(lengthsOf(3), "0"))
	breaks(t, "no distance, and another row of bits", block(lengthsOf(3), "1"))
}

func TestLengthsOfTheNineteenSymbols(t *testing.T) {
	for _, c := range []struct {
		name    string
		lengths []int
	}{
		{"none", lengthsOf(19)},
		{"only one, of length 1", lengthsOf(19, 1, 1)},
		{"only one, of length 1, at 18", lengthsOf(19, 18, 1)},
		{"two of length 2", lengthsOf(19, 0, 2, 1, 2)},
		{"three of length 1", lengthsOf(19, 0, 1, 1, 1, 18, 1)},
		{"one of length 7 too many", lengthsOf(19, 0, 1, 1, 1, 18, 7)},
		{"one of length 7 too few", lengthsOf(19, 0, 1, 1, 2, 2, 3, 3, 4, 4, 5, 5, 6, 6, 7)},
	} {
		p := &packer{}
		p.head(true, 257, 1, c.lengths)
		breaks(t, "the 19 symbols: "+c.name, p.packed())
	}
	for listed := 4; listed <= 19; listed++ {
		packed, right := listedOnly(listed)
		if right {
			puts(t, fmt.Sprintf("the first %d of the 19 lengths", listed), packed, api.MaxWindow, "")
		} else {
			breaks(t, fmt.Sprintf("the first %d of the 19 lengths", listed), packed)
		}
	}
}

// listedOnly lists so many lengths of the 19 symbols: 18 has a code, and so has
// the last one that is listed. Only the symbol 1 lets it go on rightly.
func listedOnly(listed int) (string, bool) {
	last := lengthOrderOfDoc[listed-1]
	p := &packer{}
	p.block(true, 2)
	p.number(0, 5)
	p.number(0, 5)
	p.number(listed-4, 4)
	for _, symbol := range lengthOrderOfDoc[:listed] {
		if symbol == 18 || symbol == last {
			p.number(1, 3)
		} else {
			p.number(0, 3)
		}
	}
	codes := codesOf(lengthsOf(19, 18, 1, last, 1))
	p.zeros(codes, 256)
	p.code(codes[last])
	p.code(codes[last])
	p.bit(0)
	return p.packed(), last == 1
}

// zeros writes so many lengths 0 by the symbol 18, which has a code.
func (p *packer) zeros(codes []string, count int) {
	for count > 0 {
		times := min(count, 138)
		if count-times > 0 && count-times < 11 {
			times -= 11
		}
		p.code(codes[18])
		p.number(times-11, 7)
		count -= times
	}
}

// runs begins a block of sort 2 and writes its lengths by symbols as they are
// given: pairs of a symbol and the number behind it.
func runs(literals, distances int, pairs ...int) *packer {
	p := &packer{}
	codes := p.head(true, literals, distances, runLengths())
	for i := 0; i < len(pairs); i += 2 {
		p.code(codes[pairs[i]])
		p.number(pairs[i+1], widthBehind(pairs[i]))
	}
	return p
}

// runLengths has codes of 3 bits for the symbols that these tests write.
func runLengths() []int {
	return lengthsOf(19, 0, 3, 1, 3, 2, 3, 3, 3, 8, 3, 16, 3, 17, 3, 18, 3)
}

// widthBehind is how many bits the number has that follows one of the 19 symbols.
func widthBehind(symbol int) int {
	switch symbol {
	case 16:
		return 2
	case 17:
		return 3
	case 18:
		return 7
	}
	return 0
}

// Of each run every number of times, and of each the last one just fits.
func TestRunsOfLengths(t *testing.T) {
	for more := range 128 {
		rest := 256 - (11 + more)
		p := runs(257, 1, 18, more)
		codes := codesOf(runLengths())
		p.zeros(codes, rest)
		p.code(codes[1] + codes[0] + "0")
		puts(t, fmt.Sprintf("%d times 0 by the symbol 18", 11+more), p.packed(), api.MaxWindow, "")
	}
	for more := range 8 {
		// 'x' + 256, both of length 1, with the run between them.
		list := []int{18, 127, 18, 256 - 138 - 11 - (3 + more) - 1, 1, 0, 17, more, 1, 0, 0, 0}
		p := runs(257, 1, list...)
		p.bit(1)
		puts(t, fmt.Sprintf("%d times 0 by the symbol 17", 3+more), p.packed(), api.MaxWindow, "")
	}
	for more := range 4 {
		// 1 + 3 + more symbols of length 3, and as many as are missing, and 256.
		list := []int{18, 127, 18, 99, 3, 0, 16, more}
		for range 8 - (1 + 3 + more) - 1 {
			list = append(list, 3, 0)
		}
		list = append(list, slices.Repeat([]int{0, 0}, 256-138-110-7)...)
		p := runs(257, 1, append(list, 3, 0, 0, 0)...)
		p.code("111")
		puts(t, fmt.Sprintf("%d times again by the symbol 16", 3+more), p.packed(), api.MaxWindow, "")
	}
}

// The lengths of distance symbols come right behind those of literal symbols:
// a run may reach from the ones to the others.
func TestRunsAcrossBothLists(t *testing.T) {
	// 256 zeros; 256 and 257 of length 1; the distance symbols 0 and 1 as well.
	p := runs(258, 2, 18, 127, 18, 107, 1, 0, 16, 0)
	p.code("0")
	puts(t, "the symbol 16 across both lists", p.packed(), api.MaxWindow, "")
	p = runs(257, 30, 18, 127, 18, 106, 1, 0, 1, 0, 18, 19)
	p.code("1")
	puts(t, "30 distance symbols without codes", p.packed(), api.MaxWindow, "")
	// 'x' and 256 of length 1 are full; a run of 0s is the rest of the literal
	// symbols and all distance symbols.
	p = runs(286, 30, 18, 127, 18, 106, 1, 0, 1, 0, 18, 48)
	p.code("1")
	puts(t, "the symbol 18 across both lists", p.packed(), api.MaxWindow, "")
	p = runs(260, 4, 18, 127, 18, 106, 1, 0, 1, 0, 17, 4)
	p.code("1")
	puts(t, "the symbol 17 across both lists", p.packed(), api.MaxWindow, "")
}

func TestMoreLengthsThanThereAre(t *testing.T) {
	for _, c := range []struct {
		name string
		list []int
	}{
		{"by the symbol 16", []int{18, 127, 18, 107, 1, 0, 16, 0}},
		{"by the symbol 17", []int{18, 127, 18, 107, 1, 0, 17, 0}},
		{"by the symbol 18", []int{18, 127, 18, 107, 1, 0, 18, 0}},
		{"by many", []int{18, 127, 18, 107, 1, 0, 18, 127}},
	} {
		breaks(t, "more lengths "+c.name, runs(257, 2, c.list...).packed())
	}
	one := runs(257, 1, 18, 127, 18, 106, 1, 0, 1, 0, 0, 0)
	one.code("1")
	puts(t, "just as many lengths", one.packed(), api.MaxWindow, "")
	breaks(t, "one length more, by the symbol 17", runs(257, 2, 18, 127, 18, 106, 1, 0, 1, 0, 17, 0).packed())
}

// restAfter gives the runs behind so many lengths: 0s, and codes of length 1 for
// the symbols 255 and 256.
func restAfter(count int) []int {
	return []int{18, 127, 18, 255 - count - 138 - 11, 1, 0, 1, 0, 0, 0}
}

// Were the missing length taken for a 0, all the rest would be right.
func TestNoLengthThatComesAgain(t *testing.T) {
	for more := range 4 {
		p := runs(257, 1, append([]int{16, more}, restAfter(3+more)...)...)
		p.code("1")
		isNone(t, "16 with no length ahead of it", p.packed(), api.MaxWindow, api.MaxOut)
		p = runs(257, 1, append([]int{0, 0, 16, more}, restAfter(1+3+more)...)...)
		p.code("1")
		puts(t, "16 behind a length 0", p.packed(), api.MaxWindow, "")
	}
}

// The last length of one block is none ahead of the first one of the next.
func TestLengthsOfTheBlockBefore(t *testing.T) {
	for _, distances := range [][]int{lengthsOf(1), lengthsOf(2, 0, 1, 1, 1)} {
		p := &packer{}
		p.own(false, halves(257), distances).end()
		codes := p.head(true, 257, 1, lengthsOf(19, 0, 2, 1, 2, 16, 2, 18, 2))
		p.code(codes[16])
		p.number(0, 2)
		p.zeros(codes, 252)
		p.code(codes[1] + codes[1] + codes[0] + "1")
		isNone(t, "16 at the beginning of the second block", p.packed(), api.MaxWindow, api.MaxOut)
	}
}

// Codes of every length are read, and each block has its own ones.
func TestCodesOfEveryLength(t *testing.T) {
	literals := lengthsOf(257, append(pairs(1, 15), 256, 15)...)
	p := &packer{}
	var want strings.Builder
	for i := range 20 {
		c := p.own(i == 19, literals, lengthsOf(1))
		c.text("\x01\x0f\x0e\x0d\x0c\x0b\x0a\x09\x08\x07\x06\x05\x04\x03\x02")
		c.end()
		want.WriteString("\x01\x0f\x0e\x0d\x0c\x0b\x0a\x09\x08\x07\x06\x05\x04\x03\x02")
		slices.Reverse(literals[1:15])
	}
	puts(t, "codes of every length", p.packed(), api.MaxWindow, want.String())
}
