package deflate

import (
	"slices"
	"strings"
)

// packer writes packed bytes, bit by bit, right ones and wrong ones.
type packer struct {
	out   []byte
	count int
}

func (p *packer) bit(bit int) {
	if p.count%8 == 0 {
		p.out = append(p.out, 0)
	}
	p.out[p.count/8] |= byte(bit << (p.count % 8))
	p.count++
}

// number writes a number, its lowest bit first.
func (p *packer) number(value, width int) {
	for i := range width {
		p.bit(value >> i & 1)
	}
}

// code writes a code, its first bit first.
func (p *packer) code(code string) {
	for i := range len(code) {
		p.bit(int(code[i] - '0'))
	}
}

func (p *packer) align(filler int) {
	for p.count%8 != 0 {
		p.bit(filler)
	}
}

// block writes the beginning of a block.
func (p *packer) block(last bool, sort int) {
	if last {
		p.bit(1)
	} else {
		p.bit(0)
	}
	p.number(sort, 2)
}

// stored writes a whole block of sort 0.
func (p *packer) stored(last bool, s string) {
	p.block(last, 0)
	p.align(1)
	p.number(len(s), 16)
	p.number(len(s)^0xffff, 16)
	for i := range len(s) {
		p.number(int(s[i]), 8)
	}
}

// codesOf gives the codes that come of lengths, as digits, by the document's
// words: each is the one ahead of it plus 1, with 0s behind it.
func codesOf(lengths []int) []string {
	var order []int
	for symbol, length := range lengths {
		if length > 0 {
			order = append(order, symbol)
		}
	}
	slices.SortStableFunc(order, func(a, b int) int { return lengths[a] - lengths[b] })
	codes := make([]string, len(lengths))
	code := ""
	for _, symbol := range order {
		if code != "" {
			code = oneMore(code)
		}
		code += strings.Repeat("0", lengths[symbol]-len(code))
		codes[symbol] = code
	}
	return codes
}

func oneMore(code string) string {
	digits := []byte(code)
	for i := len(digits) - 1; i >= 0; i-- {
		digits[i] ^= 1
		if digits[i] == '1' {
			break
		}
	}
	return string(digits)
}

// coded is what is needed to write symbols: their codes.
type coded struct {
	*packer
	literals, distances []string
}

// fixed begins a block of sort 1.
func (p *packer) fixed(last bool) *coded {
	p.block(last, 1)
	return &coded{p, codesOf(slices.Concat(slices.Repeat([]int{8}, 144), slices.Repeat([]int{9}, 112), slices.Repeat([]int{7}, 24), slices.Repeat([]int{8}, 8))), codesOf(slices.Repeat([]int{5}, 32))}
}

// lengthOrderOfDoc is the order in which the lengths of the 19 symbols come.
var lengthOrderOfDoc = []int{16, 17, 18, 0, 8, 7, 9, 6, 10, 5, 11, 4, 12, 3, 13, 2, 14, 1, 15}

// head writes the beginning of a block of sort 2 up to where the lengths come.
func (p *packer) head(last bool, literals, distances int, lengths []int) []string {
	p.block(last, 2)
	p.number(literals-257, 5)
	p.number(distances-1, 5)
	listed := 19
	for listed > 4 && lengths[lengthOrderOfDoc[listed-1]] == 0 {
		listed--
	}
	p.number(listed-4, 4)
	for _, symbol := range lengthOrderOfDoc[:listed] {
		p.number(lengths[symbol], 3)
	}
	return codesOf(lengths)
}

// plainLengths has codes of 4 bits for all lengths, and none for 16 to 18.
var plainLengths = []int{4, 4, 4, 4, 4, 4, 4, 4, 4, 4, 4, 4, 4, 4, 4, 4, 0, 0, 0}

// own begins a block of sort 2, with lengths that may be wrong ones.
func (p *packer) own(last bool, literals, distances []int) *coded {
	codes := p.head(last, len(literals), len(distances), plainLengths)
	for _, length := range slices.Concat(literals, distances) {
		p.code(codes[length])
	}
	return &coded{p, codesOf(literals), codesOf(distances)}
}

// lengthsOf makes a list of lengths out of pairs: a symbol and its length.
func lengthsOf(count int, pairs ...int) []int {
	lengths := make([]int, count)
	for i := 0; i < len(pairs); i += 2 {
		lengths[pairs[i]] = pairs[i+1]
	}
	return lengths
}

func (c *coded) text(s string) {
	for i := range len(s) {
		c.code(c.literals[s[i]])
	}
}

func (c *coded) end() { c.code(c.literals[256]) }

// again writes a length symbol and a distance symbol, with what follows them.
func (c *coded) again(length, moreLength, widthLength, distance, moreDistance, widthDistance int) {
	c.code(c.literals[length])
	c.number(moreLength, widthLength)
	c.code(c.distances[distance])
	c.number(moreDistance, widthDistance)
}

// copyOf writes the symbols of a length and a distance, found in the lists of
// the document.
func (c *coded) copyOf(length, distance int) {
	l, d := 0, 0
	for i := range lengthsOfDoc {
		if lengthsOfDoc[i].least <= length {
			l = i
		}
	}
	for i := range distancesOfDoc {
		if distancesOfDoc[i].least <= distance {
			d = i
		}
	}
	c.again(257+l, length-lengthsOfDoc[l].least, lengthsOfDoc[l].bits, d, distance-distancesOfDoc[d].least, distancesOfDoc[d].bits)
}

type span struct{ least, bits int }

// lengthsOfDoc is what the literal symbols from 257 on stand for.
var lengthsOfDoc = []span{
	{3, 0}, {4, 0}, {5, 0}, {6, 0}, {7, 0}, {8, 0}, {9, 0}, {10, 0},
	{11, 1}, {13, 1}, {15, 1}, {17, 1},
	{19, 2}, {23, 2}, {27, 2}, {31, 2},
	{35, 3}, {43, 3}, {51, 3}, {59, 3},
	{67, 4}, {83, 4}, {99, 4}, {115, 4},
	{131, 5}, {163, 5}, {195, 5}, {227, 5},
	{258, 0},
}

// distancesOfDoc is what the distance symbols stand for.
var distancesOfDoc = []span{
	{1, 0}, {2, 0}, {3, 0}, {4, 0},
	{5, 1}, {7, 1}, {9, 2}, {13, 2}, {17, 3}, {25, 3}, {33, 4}, {49, 4},
	{65, 5}, {97, 5}, {129, 6}, {193, 6}, {257, 7}, {385, 7}, {513, 8}, {769, 8},
	{1025, 9}, {1537, 9}, {2049, 10}, {3073, 10}, {4097, 11}, {6145, 11},
	{8193, 12}, {12289, 12}, {16385, 13}, {24577, 13},
}

func (p *packer) packed() string { return string(p.out) }

// fixedBlock gives one last block of sort 1, which a function fills.
func fixedBlock(fill func(c *coded)) string {
	p := &packer{}
	fill(p.fixed(true))
	return p.packed()
}

// ownBlock gives one last block of sort 2, which a function fills.
func ownBlock(literals, distances []int, fill func(c *coded)) string {
	p := &packer{}
	fill(p.own(true, literals, distances))
	return p.packed()
}
