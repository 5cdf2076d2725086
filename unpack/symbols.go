package unpack

// endSymbol is the literal symbol that ends a block.
const endSymbol = 256

type kind uint8

const (
	nothing kind = iota // the symbol is malformed
	aByte
	anEnd
	aLength
	aDistance
)

// meaning is what a symbol stands for: of its kind, a number, and as much more
// as a number of so many bits says that follows.
type meaning struct {
	kind  kind
	least int
	extra uint
}

// literalMeaning is what a literal symbol stands for.
func literalMeaning(symbol int) meaning {
	switch {
	case symbol < endSymbol:
		return meaning{aByte, symbol, 0}
	case symbol == endSymbol:
		return meaning{anEnd, 0, 0}
	case symbol < 265:
		return meaning{aLength, symbol - 254, 0}
	case symbol < 285:
		// From 265 on, four symbols each have 1, 2, 3, 4 and 5 further bits.
		extra, place := uint(symbol-265)/4+1, (symbol-265)%4
		return meaning{aLength, (4+place)<<extra + 3, extra}
	case symbol == 285:
		return meaning{aLength, 258, 0}
	}
	return meaning{nothing, 0, 0}
}

// distanceMeaning is what a distance symbol stands for.
func distanceMeaning(symbol int) meaning {
	switch {
	case symbol < 4:
		return meaning{aDistance, symbol + 1, 0}
	case symbol < 30:
		extra, place := uint(symbol-2)/2, symbol%2
		return meaning{aDistance, (2+place)<<extra + 1, extra}
	}
	return meaning{nothing, 0, 0}
}
