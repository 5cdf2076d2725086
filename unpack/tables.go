package unpack

import (
	"vellum/bitrow"
	"vellum/codes"
	"vellum/fault"
)

const (
	mostLiterals  = 286
	mostDistances = 30
)

// tables are those by which the symbols of a block are read.
type tables struct {
	literals  *codes.Table[meaning]
	distances *codes.Table[meaning]
}

func newTables(literals, distances []uint8) *tables {
	return &tables{
		literals:  codes.New(literals, literalMeaning),
		distances: codes.New(distances, distanceMeaning),
	}
}

// fixedTables are those of every block of sort 1.
func fixedTables() *tables {
	literals := make([]uint8, 288)
	for symbol := range literals {
		switch {
		case symbol < 144:
			literals[symbol] = 8
		case symbol < 256:
			literals[symbol] = 9
		case symbol < 280:
			literals[symbol] = 7
		default:
			literals[symbol] = 8
		}
	}
	distances := make([]uint8, 32)
	for symbol := range distances {
		distances[symbol] = 5
	}
	return newTables(literals, distances)
}

// readTables reads those that a block of sort 2 begins with.
func readTables(bits *bitrow.Reader) (*tables, error) {
	literals, distances, listed, err := readCounts(bits)
	if err != nil {
		return nil, err
	}
	forLengths, err := readLengthTable(bits, listed)
	if err != nil {
		return nil, err
	}
	lengths, err := readLengths(bits, forLengths, literals+distances)
	if err != nil {
		return nil, err
	}
	if err := checkLengths(lengths[:literals], lengths[literals:]); err != nil {
		return nil, err
	}
	return newTables(lengths[:literals], lengths[literals:]), nil
}

// readCounts reads how many literal symbols and how many distance symbols have
// lengths, and how many lengths there are of the codes for lengths.
func readCounts(bits *bitrow.Reader) (literals, distances, listed int, err error) {
	if literals, err = bits.Number(5); err != nil {
		return 0, 0, 0, err
	}
	literals += 257
	if literals > mostLiterals {
		return 0, 0, 0, fault.NewMalformed("too many literal symbols")
	}
	if distances, err = bits.Number(5); err != nil {
		return 0, 0, 0, err
	}
	distances++
	if distances > mostDistances {
		return 0, 0, 0, fault.NewMalformed("too many distance symbols")
	}
	if listed, err = bits.Number(4); err != nil {
		return 0, 0, 0, err
	}
	return literals, distances, listed + 4, nil
}

// lengthOrder is the order in which the lengths of the codes for lengths come.
var lengthOrder = [19]uint8{16, 17, 18, 0, 8, 7, 9, 6, 10, 5, 11, 4, 12, 3, 13, 2, 14, 1, 15}

// readLengthTable reads the table of the symbols that tell lengths.
func readLengthTable(bits *bitrow.Reader, listed int) (*codes.Table[int], error) {
	lengths := make([]uint8, len(lengthOrder))
	for i := range listed {
		length, err := bits.Number(3)
		if err != nil {
			return nil, err
		}
		lengths[lengthOrder[i]] = uint8(length)
	}
	if codes.FitOf(lengths) != codes.Full {
		return nil, fault.NewMalformed("the lengths of the codes for lengths are not full")
	}
	return codes.New(lengths, func(symbol int) int { return symbol }), nil
}

// readLengths reads so many lengths of codes.
func readLengths(bits *bitrow.Reader, forLengths *codes.Table[int], count int) ([]uint8, error) {
	lengths := make([]uint8, 0, count)
	for len(lengths) < count {
		symbol, err := forLengths.Read(bits)
		if err != nil {
			return nil, err
		}
		length, times, err := readRun(bits, symbol, lengths)
		if err != nil {
			return nil, err
		}
		if times > count-len(lengths) {
			return nil, fault.NewMalformed("more lengths than there are symbols")
		}
		for range times {
			lengths = append(lengths, length)
		}
	}
	return lengths, nil
}

// readRun reads which length a symbol tells, and how often.
func readRun(bits *bitrow.Reader, symbol int, sofar []uint8) (length uint8, times int, err error) {
	switch symbol {
	case 16:
		if len(sofar) == 0 {
			return 0, 0, fault.NewMalformed("no length that could come again")
		}
		length = sofar[len(sofar)-1]
		times, err = bits.Number(2)
		times += 3
	case 17:
		times, err = bits.Number(3)
		times += 3
	case 18:
		times, err = bits.Number(7)
		times += 11
	default:
		length, times = uint8(symbol), 1
	}
	return length, times, err
}

// checkLengths says whether a block may have codes of these lengths.
func checkLengths(literals, distances []uint8) error {
	if fit := codes.FitOf(literals); fit != codes.Full && fit != codes.Single {
		return fault.NewMalformed("the lengths of literal symbols are not full")
	}
	if literals[endSymbol] == 0 {
		return fault.NewMalformed("no code ends the block")
	}
	if codes.FitOf(distances) == codes.Unfit {
		return fault.NewMalformed("the lengths of distance symbols are not full")
	}
	return nil
}
