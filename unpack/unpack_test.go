package unpack

import (
	"bytes"
	"compress/flate"
	"compress/zlib"
	"errors"
	"math/big"
	"slices"
	"strings"
	"testing"

	"vellum/fault"
	"vellum/given"
	"vellum/source"
)

// ending is a source that may be asked whether it is at its end.
type ending struct{ *given.Source }

func (e ending) NoMore() error { return source.NoMore(e) }

func endingOf(text string, behind error) ending {
	return ending{&given.Source{Text: text, Behind: behind}}
}

func sample() string {
	return strings.Repeat("packed bytes and ", 30) + "something else: 0123456789"
}

// streams has packed bytes of all three sorts.
func streams() []string {
	var list []string
	for _, level := range []int{0, 1, 9, -2} {
		var out bytes.Buffer
		w, _ := flate.NewWriter(&out, level)
		w.Write([]byte(sample()))
		w.Flush()
		w.Write([]byte("and more"))
		w.Close()
		list = append(list, out.String())
	}
	return append(list, "\x4b\x04\x00", "\x01\x02\x00\xfd\xff\x68\x69")
}

func rowOfSample() string {
	var out bytes.Buffer
	w, _ := zlib.NewWriterLevel(&out, 9)
	w.Write([]byte(sample()))
	w.Close()
	return out.String()
}

// A source may fail at any place: it is told as such, with where it was.
func TestSourceThatFailsAnywhere(t *testing.T) {
	for _, s := range streams() {
		for n := range len(s) {
			var out strings.Builder
			taken, err := Packed(&given.Source{Text: s[:n], Behind: fault.Failed}, 32768, 10000, out.WriteByte)
			if !errors.Is(err, fault.Failed) || taken != 0 {
				t.Errorf("it fails behind %d bytes: %d, %v", n, taken, err)
			}
		}
	}
	row := rowOfSample()
	for n := range len(row) + 1 {
		var out strings.Builder
		err := Wrapped(endingOf(row[:n], fault.Failed), len(sample()), out.WriteByte)
		if !errors.Is(err, fault.Failed) {
			t.Errorf("a row that fails behind %d bytes: %v", n, err)
		}
	}
}

func TestSourceThatEndsTooEarly(t *testing.T) {
	var malformed *fault.Malformed
	for _, s := range streams() {
		for n := range len(s) {
			var out strings.Builder
			_, err := Packed(&given.Source{Text: s[:n], Behind: fault.At("chunk", 4, fault.End)}, 32768, 10000, out.WriteByte)
			if !errors.As(err, &malformed) {
				t.Errorf("it ends behind %d bytes: %v", n, err)
			}
		}
	}
}

// Nothing is asked for behind the byte with the last bit of packed bytes.
func TestNothingIsAskedForBehindPackedBytes(t *testing.T) {
	for _, s := range streams() {
		from := &given.Source{Text: s, Behind: fault.Failed}
		var out strings.Builder
		taken, err := Packed(from, 32768, 10000, out.WriteByte)
		if err != nil || taken != len(s) || from.Asked != len(s) {
			t.Errorf("%d bytes, %d asked for, %d told, %v", len(s), from.Asked, taken, err)
		}
	}
}

// Behind a wrapped row it is asked just once whether there is more.
func TestBehindAWrappedRow(t *testing.T) {
	row := rowOfSample()
	from := endingOf(row, fault.End)
	var out strings.Builder
	if err := Wrapped(from, len(sample()), out.WriteByte); err != nil || out.String() != sample() {
		t.Errorf("%q, %v", out.String(), err)
	}
	if from.Asked != len(row)+1 {
		t.Errorf("%d times asked for %d bytes", from.Asked, len(row))
	}
}

// noEnd has a block's own tables, in which 0 and 1 have codes, but 256 has none:
// 257 literal symbols and 1 for distances, their lengths by the symbols 1 and 18,
// which have codes of length 1.
func noEnd() string {
	number := big.NewInt(0)
	at := uint(0)
	for _, piece := range [][2]int64{
		{5, 3}, {0, 5}, {0, 5}, {14, 4}, // the last block, of sort 2
		{0, 3}, {0, 3}, {1, 3}, {0, 42}, {1, 3}, // 18 symbols: the third is 18, the last is 1
		{0, 1}, {0, 1}, // two lengths 1
		{1, 1}, {127, 7}, {1, 1}, {107, 7}, // 256 lengths 0
	} {
		number.Or(number, new(big.Int).Lsh(big.NewInt(piece[0]), at))
		at += uint(piece[1])
	}
	out := number.Bytes()
	slices.Reverse(out)
	return string(out)
}

// What is malformed is told as soon as it is read: here the source fails right
// behind the byte that settles it.
func TestMalformedIsToldAtOnce(t *testing.T) {
	for _, c := range []struct {
		name, packed string
	}{
		{"sort 3", "\x06"},
		{"287 literal symbols", "\xf4"},
		{"31 distance symbols", "\x04\x1e"},
		{"a count and its turned-over number", "\x01\x02\x00\xfc"},
		{"a count and the second byte of its turned-over number", "\x01\x02\x00\xfd\xfe"},
		{"a count above what there may be", "\x01\x20\x4e"},
		{"no codes for lengths", "\x05\x00\x00\x00"},
		{"only one code for lengths", "\x05\x00\x10\x00"},
		{"no code for 256", noEnd()},
		{"a copy of nothing", "\x03\x02"},
		{"the symbol 286", "\x1b\x03"},
	} {
		var malformed *fault.Malformed
		_, err := Packed(&given.Source{Text: c.packed, Behind: fault.Failed}, 32768, 10000, func(byte) error { return nil })
		if !errors.As(err, &malformed) {
			t.Errorf("%s: %v", c.name, err)
		}
	}
	for _, c := range []struct {
		name, row string
		size      int
	}{
		{"the first byte", "\x79", 1},
		{"the second byte", "\x78\x9d", 1},
		{"the packed bytes", "\x78\x9c\x07", 1},
		{"fewer bytes", "\x78\x9c\x4b\x04\x00", 2},
		{"fewer bytes, by the count of the last block", "\x78\x9c\x01\x01\x00", 2},
		{"more bytes", "\x78\x9c\x4b\x04", 0},
		{"the sum's first byte", "\x78\x9c\x4b\x04\x00\x01", 1},
		{"the sum's last byte", "\x78\x9c\x4b\x04\x00\x00\x62\x00\x63", 1},
		{"a byte behind", "\x78\x9c\x4b\x04\x00\x00\x62\x00\x62\x00", 1},
	} {
		var malformed *fault.Malformed
		err := Wrapped(endingOf(c.row, fault.Failed), c.size, func(byte) error { return nil })
		if !errors.As(err, &malformed) {
			t.Errorf("a row, %s: %v", c.name, err)
		}
	}
}

// bytesOf makes bytes of a row of bits, of each byte the lowest first.
func bytesOf(bits string) string {
	bits = strings.ReplaceAll(bits, " ", "")
	out := make([]byte, (len(bits)+7)/8)
	for i := range bits {
		out[i/8] |= (bits[i] - '0') << (i % 8)
	}
	return string(out)
}

// The least that a symbol stands for may settle it ahead of the number behind it,
// which begins in the last byte that is there, and ends behind it.
func TestAmountsAreToldAheadOfTheirNumbers(t *testing.T) {
	const fixed, byte144, length227, byte0, length3 = "1 10 ", "110010000 ", "11000100 ", "00110000 ", "0000001 "
	for _, c := range []struct {
		name, bits string
		most       int
		fails      bool
	}{
		{"a length of at least 227, of 226 bytes", fixed + byte144 + length227 + "0000", 227, false},
		{"a length of at least 227, of 227 bytes", fixed + byte144 + length227 + "0000", 228, true},
		{"a distance of at least 24577, behind 1 byte", fixed + byte0 + length3 + "11101 0", 10, false},
		{"a distance of at least 17, behind 16 bytes", fixed + strings.Repeat(byte0, 16) + length3 + "01000 0", 30, false},
		{"a distance of at least 17, behind 17 bytes", fixed + strings.Repeat(byte0, 17) + length3 + "01000 0", 30, true},
	} {
		_, err := Packed(&given.Source{Text: bytesOf(c.bits), Behind: fault.Failed}, 32768, c.most, func(byte) error { return nil })
		var malformed *fault.Malformed
		if errors.As(err, &malformed) == c.fails || errors.Is(err, fault.Failed) != c.fails {
			t.Errorf("%s: %v", c.name, err)
		}
	}
}

func TestWhereItWasIsTold(t *testing.T) {
	nowhere := func(byte) error { return nil }
	// Two blocks without bytes, of 10 bits each, and one of sort 3.
	_, err := Packed(&given.Source{Text: "\x02\x08\x60", Behind: fault.End}, 1, 0, nowhere)
	if err == nil || err.Error() != "block 2: bit 23: malformed: no block is of sort 3" {
		t.Errorf("%v", err)
	}
	err = Wrapped(endingOf("\x78\x9c\x07", fault.End), 0, nowhere)
	if err == nil || err.Error() != "byte 3: block 0: bit 19: malformed: no block is of sort 3" {
		t.Errorf("%v", err)
	}
	var place *fault.Place
	_, err = Packed(&given.Source{Text: "\x02\x08", Behind: fault.Failed}, 1, 0, nowhere)
	if !errors.As(err, &place) || place.Unit != "block" || place.Number != 1 {
		t.Errorf("%v", err)
	}
	if !errors.As(place.Err, &place) || place.Unit != "bit" || place.Number != 16 {
		t.Errorf("%v", err)
	}
}

// The one that takes the bytes may stop the unpacking, in all sorts of blocks.
func TestTakerThatStops(t *testing.T) {
	enough := errors.New("enough")
	for _, s := range streams() {
		whole := 0
		if _, err := Packed(&given.Source{Text: s, Behind: fault.End}, 32768, 10000, func(byte) error { whole++; return nil }); err != nil {
			t.Fatal(err)
		}
		for stop := 1; stop <= whole; stop++ {
			came := 0
			_, err := Packed(&given.Source{Text: s, Behind: fault.End}, 32768, 10000, func(byte) error {
				if came++; came == stop {
					return enough
				}
				return nil
			})
			if came != stop || !errors.Is(err, enough) {
				t.Errorf("stopped at %d: %d came, %v", stop, came, err)
			}
		}
	}
}
