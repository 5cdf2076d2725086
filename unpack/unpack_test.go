package unpack

import (
	"bytes"
	"compress/flate"
	"compress/zlib"
	"errors"
	"math/big"
	"slices"
	"strings"
	"testing"

	"vellum/fault"
	"vellum/given"
)

func sample() string {
	return strings.Repeat("packed bytes and ", 30) + "something else: 0123456789"
}

// streams has packed bytes of all three sorts.
func streams() []string {
	var list []string
	for _, level := range []int{0, 1, 9, -2} {
		var out bytes.Buffer
		w, _ := flate.NewWriter(&out, level)
		w.Write([]byte(sample()))
		w.Flush()
		w.Write([]byte("and more"))
		w.Close()
		list = append(list, out.String())
	}
	return append(list, "\x4b\x04\x00", "\x01\x02\x00\xfd\xff\x68\x69")
}

func rowOfSample() string {
	var out bytes.Buffer
	w, _ := zlib.NewWriterLevel(&out, 9)
	w.Write([]byte(sample()))
	w.Close()
	return out.String()
}

// A source may fail at any place: it is told as such, with where it was.
func TestSourceThatFailsAnywhere(t *testing.T) {
	for _, s := range streams() {
		for n := range len(s) {
			var out strings.Builder
			taken, err := Packed(&given.Source{Text: s[:n], Behind: fault.Failed}, 32768, 10000, out.WriteByte)
			if !errors.Is(err, fault.Failed) || taken != 0 {
				t.Errorf("it fails behind %d bytes: %d, %v", n, taken, err)
			}
		}
	}
	row := rowOfSample()
	for n := range len(row) + 1 {
		var out strings.Builder
		err := Wrapped(&given.Source{Text: row[:n], Behind: fault.Failed}, len(sample()), out.WriteByte)
		if !errors.Is(err, fault.Failed) {
			t.Errorf("a row that fails behind %d bytes: %v", n, err)
		}
	}
}

func TestSourceThatEndsTooEarly(t *testing.T) {
	var malformed *fault.Malformed
	for _, s := range streams() {
		for n := range len(s) {
			var out strings.Builder
			_, err := Packed(&given.Source{Text: s[:n], Behind: fault.At("chunk", 4, fault.End)}, 32768, 10000, out.WriteByte)
			if !errors.As(err, &malformed) {
				t.Errorf("it ends behind %d bytes: %v", n, err)
			}
		}
	}
}

// Nothing is asked for behind the byte with the last bit of packed bytes.
func TestNothingIsAskedForBehindPackedBytes(t *testing.T) {
	for _, s := range streams() {
		source := &given.Source{Text: s, Behind: fault.Failed}
		var out strings.Builder
		taken, err := Packed(source, 32768, 10000, out.WriteByte)
		if err != nil || taken != len(s) || source.Asked != len(s) {
			t.Errorf("%d bytes, %d asked for, %d told, %v", len(s), source.Asked, taken, err)
		}
	}
}

// Behind a wrapped row it is asked just once whether there is more.
func TestBehindAWrappedRow(t *testing.T) {
	row := rowOfSample()
	source := &given.Source{Text: row, Behind: fault.End}
	var out strings.Builder
	if err := Wrapped(source, len(sample()), out.WriteByte); err != nil || out.String() != sample() {
		t.Errorf("%q, %v", out.String(), err)
	}
	if source.Asked != len(row)+1 {
		t.Errorf("%d times asked for %d bytes", source.Asked, len(row))
	}
}

// noEnd has a block's own tables, in which 0 and 1 have codes, but 256 has none:
// 257 literal symbols and 1 for distances, their lengths by the symbols 1 and 18,
// which have codes of length 1.
func noEnd() string {
	number := big.NewInt(0)
	at := uint(0)
	for _, piece := range [][2]int64{
		{5, 3}, {0, 5}, {0, 5}, {14, 4}, // the last block, of sort 2
		{0, 3}, {0, 3}, {1, 3}, {0, 42}, {1, 3}, // 18 symbols: the third is 18, the last is 1
		{0, 1}, {0, 1}, // two lengths 1
		{1, 1}, {127, 7}, {1, 1}, {107, 7}, // 256 lengths 0
	} {
		number.Or(number, new(big.Int).Lsh(big.NewInt(piece[0]), at))
		at += uint(piece[1])
	}
	out := number.Bytes()
	slices.Reverse(out)
	return string(out)
}

// What is malformed is told as soon as it is read: here the source fails right
// behind the byte that settles it.
func TestMalformedIsToldAtOnce(t *testing.T) {
	for _, c := range []struct {
		name, packed string
	}{
		{"sort 3", "\x06"},
		{"287 literal symbols", "\xf4"},
		{"31 distance symbols", "\x04\x1e"},
		{"a count and its turned-over number", "\x01\x02\x00\xfc\xff"},
		{"a count above what there may be", "\x01\x20\x4e\xdf\xb1"},
		{"no codes for lengths", "\x05\x00\x00\x00"},
		{"only one code for lengths", "\x05\x00\x10\x00"},
		{"no code for 256", noEnd()},
		{"a copy of nothing", "\x03\x02"},
		{"the symbol 286", "\x1b\x03"},
	} {
		var malformed *fault.Malformed
		_, err := Packed(&given.Source{Text: c.packed, Behind: fault.Failed}, 32768, 10000, func(byte) error { return nil })
		if !errors.As(err, &malformed) {
			t.Errorf("%s: %v", c.name, err)
		}
	}
	for _, c := range []struct {
		name, row string
		size      int
	}{
		{"the first byte", "\x79", 1},
		{"the second byte", "\x78\x9d", 1},
		{"the packed bytes", "\x78\x9c\x07", 1},
		{"fewer bytes", "\x78\x9c\x4b\x04\x00", 2},
		{"more bytes", "\x78\x9c\x4b\x04", 0},
		{"the sum's first byte", "\x78\x9c\x4b\x04\x00\x01", 1},
		{"the sum's last byte", "\x78\x9c\x4b\x04\x00\x00\x62\x00\x63", 1},
		{"a byte behind", "\x78\x9c\x4b\x04\x00\x00\x62\x00\x62\x00", 1},
	} {
		var malformed *fault.Malformed
		err := Wrapped(&given.Source{Text: c.row, Behind: fault.Failed}, c.size, func(byte) error { return nil })
		if !errors.As(err, &malformed) {
			t.Errorf("a row, %s: %v", c.name, err)
		}
	}
}

func TestWhereItWasIsTold(t *testing.T) {
	nowhere := func(byte) error { return nil }
	// Two blocks without bytes, of 10 bits each, and one of sort 3.
	_, err := Packed(&given.Source{Text: "\x02\x08\x60", Behind: fault.End}, 1, 0, nowhere)
	if err == nil || err.Error() != "block 2: bit 23: malformed: no block is of sort 3" {
		t.Errorf("%v", err)
	}
	err = Wrapped(&given.Source{Text: "\x78\x9c\x07", Behind: fault.End}, 0, nowhere)
	if err == nil || err.Error() != "byte 3: block 0: bit 19: malformed: no block is of sort 3" {
		t.Errorf("%v", err)
	}
	var place *fault.Place
	_, err = Packed(&given.Source{Text: "\x02\x08", Behind: fault.Failed}, 1, 0, nowhere)
	if !errors.As(err, &place) || place.Unit != "block" || place.Number != 1 {
		t.Errorf("%v", err)
	}
	if !errors.As(place.Err, &place) || place.Unit != "bit" || place.Number != 16 {
		t.Errorf("%v", err)
	}
}

// The one that takes the bytes may stop the unpacking, in all sorts of blocks.
func TestTakerThatStops(t *testing.T) {
	enough := errors.New("enough")
	for _, s := range streams() {
		whole := 0
		if _, err := Packed(&given.Source{Text: s, Behind: fault.End}, 32768, 10000, func(byte) error { whole++; return nil }); err != nil {
			t.Fatal(err)
		}
		for stop := 1; stop <= whole; stop++ {
			came := 0
			_, err := Packed(&given.Source{Text: s, Behind: fault.End}, 32768, 10000, func(byte) error {
				if came++; came == stop {
					return enough
				}
				return nil
			})
			if came != stop || !errors.Is(err, enough) {
				t.Errorf("stopped at %d: %d came, %v", stop, came, err)
			}
		}
	}
}
