package codes

import (
	"errors"
	"math/rand"
	"slices"
	"strings"
	"testing"

	"vellum/bitrow"
	"vellum/fault"
)

// digits is a source of bits that are written as 0s and 1s, the first one
// first; behind them it fails.
type digits struct {
	rest string
}

func (d *digits) NextByte() (byte, error) {
	if d.rest == "" {
		return 0, fault.Failed
	}
	piece := d.rest[:min(8, len(d.rest))]
	d.rest = d.rest[len(piece):]
	b := byte(0)
	for i := range len(piece) {
		b |= (piece[i] - '0') << i
	}
	return b, nil
}

func symbolItself(symbol int) int { return symbol }

// codeTexts are the codes of lengths by the document's rule, as digits.
func codeTexts(lengths []uint8) []string {
	texts := make([]string, len(lengths))
	code := ""
	for length := 1; length <= MaxLength; length++ {
		for symbol := range lengths {
			if int(lengths[symbol]) != length {
				continue
			}
			if code == "" {
				code = strings.Repeat("0", length)
			} else {
				code = plusOne(code)
				code += strings.Repeat("0", length-len(code))
			}
			texts[symbol] = code
		}
	}
	return texts
}

func plusOne(code string) string {
	last := strings.LastIndexByte(code, '0')
	if last < 0 {
		return code
	}
	return code[:last] + "1" + strings.Repeat("0", len(code)-last-1)
}

// fullLengths parts codes at random until there are so many.
func fullLengths(r *rand.Rand, count int) []uint8 {
	lengths := []uint8{1, 1}
	for len(lengths) < count {
		i := r.Intn(len(lengths))
		if lengths[i] == MaxLength {
			continue
		}
		lengths[i]++
		lengths = append(lengths, lengths[i])
	}
	for range r.Intn(20) {
		lengths = append(lengths, 0)
	}
	r.Shuffle(len(lengths), func(i, j int) { lengths[i], lengths[j] = lengths[j], lengths[i] })
	return lengths
}

func TestFitOf(t *testing.T) {
	longest := []uint8{MaxLength, MaxLength}
	for length := uint8(1); length < MaxLength; length++ {
		longest = append(longest, length)
	}
	for _, c := range []struct {
		name    string
		lengths []uint8
		want    Fit
	}{
		{"no symbols", nil, None},
		{"no codes", []uint8{0, 0, 0}, None},
		{"one of length 1", []uint8{0, 1, 0}, Single},
		{"one of length 2", []uint8{0, 2}, Unfit},
		{"one of the greatest length", []uint8{MaxLength}, Unfit},
		{"two of length 1", []uint8{1, 0, 1}, Full},
		{"three of length 1", []uint8{1, 1, 1}, Unfit},
		{"two of length 2", []uint8{2, 2}, Unfit},
		{"1, 2, 2", []uint8{2, 1, 2}, Full},
		{"1, 2, 3", []uint8{1, 2, 3}, Unfit},
		{"1, 2, 2, and one too many", []uint8{2, 1, 2, 15}, Unfit},
		{"every length", longest, Full},
		{"every length, one missing", longest[1:], Unfit},
		{"as many of length 8 as there are", slices.Repeat([]uint8{8}, 256), Full},
		{"one less of length 8", slices.Repeat([]uint8{8}, 255), Unfit},
		{"one more of length 8", slices.Repeat([]uint8{8}, 257), Unfit},
	} {
		if got := FitOf(c.lengths); got != c.want {
			t.Errorf("P5: %s: %d, want %d", c.name, got, c.want)
		}
	}
}

// Of each code the table gives its symbol, and reads no bit behind it: the
// source fails there.
func TestEachCodeGivesItsSymbol(t *testing.T) {
	r := rand.New(rand.NewSource(5))
	for range 200 {
		lengths := fullLengths(r, 2+r.Intn(285))
		if FitOf(lengths) != Full {
			t.Fatalf("lengths that are not full: %v", lengths)
		}
		table := New(lengths, symbolItself)
		for symbol, text := range codeTexts(lengths) {
			if text == "" {
				continue
			}
			bits := bitrow.New(&digits{text})
			got, err := table.Read(bits)
			if got != symbol || err != nil || bits.Position() != len(text) {
				t.Fatalf("P5: the code %s: %d, %v, %d bits; want %d", text, got, err, bits.Position(), symbol)
			}
		}
	}
}

func TestTheGivenOrderOfCodes(t *testing.T) {
	table := New([]uint8{3, 3, 3, 3, 3, 2, 4, 4}, symbolItself)
	bits := bitrow.New(&digits{"010" + "011" + "100" + "101" + "110" + "00" + "1110" + "1111"})
	for symbol := range 8 {
		if got, err := table.Read(bits); got != symbol || err != nil {
			t.Errorf("P5: %d, %v, want %d", got, err, symbol)
		}
	}
}

func TestRowsOfBitsThatBeginWithNoCode(t *testing.T) {
	var malformed *fault.Malformed
	single := New([]uint8{0, 0, 1}, symbolItself)
	bits := bitrow.New(&digits{"01"})
	if got, err := single.Read(bits); got != 2 || err != nil {
		t.Errorf("P5: the only code: %d, %v", got, err)
	}
	if got, err := single.Read(bits); got != 0 || !errors.As(err, &malformed) || bits.Position() != 2 {
		t.Errorf("P5: beside the only code: %d, %v, %d bits", got, err, bits.Position())
	}
	bits = bitrow.New(&digits{})
	if got, err := New([]uint8{0, 0}, symbolItself).Read(bits); got != 0 || !errors.As(err, &malformed) {
		t.Errorf("P5: no code at all: %d, %v", got, err)
	}
}

func TestSourceThatFailsInACode(t *testing.T) {
	table := New([]uint8{1, 10, 11, 12, 13, 14, 15, 15, 9, 8, 7, 6, 5, 4, 3, 2}, symbolItself)
	bits := bitrow.New(&digits{"11111111"})
	if got, err := table.Read(bits); got != 0 || !errors.Is(err, fault.Failed) {
		t.Errorf("%d, %v", got, err)
	}
}

// A table may hold what symbols stand for, whatever that is.
func TestTablesOfOtherThings(t *testing.T) {
	table := New([]uint8{1, 2, 2}, func(symbol int) string { return strings.Repeat("x", symbol) })
	bits := bitrow.New(&digits{"11" + "0" + "10"})
	for _, want := range []string{"xx", "", "x"} {
		if got, err := table.Read(bits); got != want || err != nil {
			t.Errorf("%q, %v, want %q", got, err, want)
		}
	}
}
