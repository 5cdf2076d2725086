package deflate

import (
	"bytes"
	"compress/zlib"
	"fmt"
	"hash/adler32"
	"strings"
	"testing"

	"vellum/api"
)

// wrapped lays the two first bytes and the Adler sum around packed bytes.
func wrapped(first, second byte, packed, out string) string {
	sum := adler32.Checksum([]byte(out))
	return string([]byte{first, second}) + packed + string([]byte{byte(sum >> 24), byte(sum >> 16), byte(sum >> 8), byte(sum)})
}

// rowOf wraps packed bytes as they should be.
func rowOf(packed, out string) string { return wrapped(0x78, 0x9c, packed, out) }

func unwraps(t *testing.T, name, row, want string) {
	t.Helper()
	if out, e := Unwrap(row, len(want)); out != want || e != api.OK {
		t.Errorf("P6: %s: %.40q (%d bytes), %d, want %.40q (%d bytes)", name, out, len(out), e, want, len(want))
	}
}

func isNoRow(t *testing.T, name, row string, size int) {
	t.Helper()
	if out, e := Unwrap(row, size); out != "" || e != api.ErrMalformed {
		t.Errorf("P6: %s: %.40q (%d bytes), %d, want ErrMalformed", name, out, len(out), e)
	}
}

func TestTheExampleRow(t *testing.T) {
	row := "\x78\x9c\x4b\x04\x00\x00\x62\x00\x62"
	unwraps(t, "a", row, "a")
	isNoRow(t, "a, with 9d in place of 9c", "\x78\x9d"+row[2:], 1)
}

func TestOrdinaryRows(t *testing.T) {
	for _, c := range ordinary() {
		row := rowOf(c.packed, c.out)
		unwraps(t, c.name, row, c.out)
		for n := range len(row) {
			isNoRow(t, fmt.Sprintf("%s, the first %d bytes", c.name, n), row[:n], len(c.out))
		}
		for _, behind := range []string{"\x00", "\xff", "a", row} {
			isNoRow(t, c.name+", and bytes behind it", row+behind, len(c.out))
		}
		for _, size := range []int{0, 1, len(c.out) - 1, len(c.out) + 1, api.MaxOut} {
			if size >= 0 && size != len(c.out) {
				isNoRow(t, fmt.Sprintf("%s, size %d", c.name, size), row, size)
			}
		}
	}
}

func TestRowsByTheLibrary(t *testing.T) {
	for _, level := range []int{0, 1, 6, 9, -2} {
		for _, n := range []int{0, 1, 100, 5551, 5552, 5553, 70000} {
			var out bytes.Buffer
			w, _ := zlib.NewWriterLevel(&out, level)
			w.Write([]byte(textOf(n)))
			w.Close()
			unwraps(t, fmt.Sprintf("%d bytes by level %d", n, level), out.String(), textOf(n))
		}
	}
}

// Of all two first bytes there may be, just those are right that the document
// names.
func TestTheFirstTwoBytes(t *testing.T) {
	right := 0
	for first := range 256 {
		for second := range 256 {
			row := wrapped(byte(first), byte(second), "\x03\x00", "")
			number := first*256 + second
			if first%16 == 8 && first/16 <= 7 && number%31 == 0 && second/32%2 == 0 {
				unwraps(t, fmt.Sprintf("first bytes %04x", number), row, "")
				right++
			} else {
				isNoRow(t, fmt.Sprintf("first bytes %04x", number), row, 0)
			}
		}
	}
	if right != 32 {
		t.Errorf("%d first bytes are right, want 32", right)
	}
}

// secondByte is one that fits behind a first one.
func secondByte(first int) byte {
	for second := range 256 {
		if (first*256+second)%31 == 0 && second&32 == 0 {
			return byte(second)
		}
	}
	return 0
}

func TestDistancesOfARow(t *testing.T) {
	for c := range 8 {
		widest := 1 << (c + 8)
		for _, far := range []int{1, widest - 1, widest, widest + 1, 32768} {
			if far > 32768 {
				continue
			}
			text := farText()[:far]
			p := &packer{}
			p.stored(false, text)
			block := p.fixed(true)
			block.copyOf(3, far)
			block.end()
			want := text + (text + text + text)[:3]
			first := c<<4 | 8
			row := wrapped(byte(first), secondByte(first), p.packed(), want)
			if far <= widest {
				unwraps(t, fmt.Sprintf("C %d, distance %d", c, far), row, want)
			} else {
				isNoRow(t, fmt.Sprintf("C %d, distance %d", c, far), row, len(want))
			}
		}
	}
}

func TestAnotherAdlerSum(t *testing.T) {
	for _, c := range ordinary() {
		row := []byte(rowOf(c.packed, c.out))
		for bit := range 32 {
			at := len(row) - 4 + bit/8
			row[at] ^= 1 << (bit % 8)
			isNoRow(t, fmt.Sprintf("%s, the bit %d of the sum turned over", c.name, bit), string(row), len(c.out))
			row[at] ^= 1 << (bit % 8)
		}
	}
	isNoRow(t, "the sum with its lowest byte first", "\x78\x9c\x4b\x04\x00\x62\x00\x62\x00", 1)
	isNoRow(t, "no bytes, with the sum 0", "\x78\x9c\x03\x00\x00\x00\x00\x00", 0)
}

// The sum begins with a whole byte, whatever the bits ahead of it are.
func TestBitsAheadOfTheSum(t *testing.T) {
	for filler := range 64 {
		p := &packer{}
		p.fixed(true).end()
		p.number(filler, 6)
		unwraps(t, fmt.Sprintf("filled up with %d", filler), rowOf(p.packed(), ""), "")
	}
}

func TestAnythingWrongInsideARow(t *testing.T) {
	for i, packed := range manyPacked(2000) {
		out, taken, ok := inflateByWords(packed, api.MaxWindow, api.MaxOut)
		if ok && taken == len(packed) {
			unwraps(t, fmt.Sprintf("the text %d", i), rowOf(packed, out), out)
		} else {
			isNoRow(t, fmt.Sprintf("the text %d", i), rowOf(packed, out), len(out))
		}
	}
}

func TestSizes(t *testing.T) {
	row := rowOf("\x03\x00", "")
	for _, size := range []int{-1 << 63, -1, 0, 1, 16777216, 16777217, 1<<63 - 1} {
		want := api.ErrMalformed
		switch {
		case size < 0 || size > 16777216:
			want = api.ErrLimit
		case size == 0:
			want = api.OK
		}
		if out, e := Unwrap(row, size); out != "" || e != want {
			t.Errorf("P6: size %d: %q, %d, want %d", size, out, e, want)
		}
		if want == api.OK {
			want = api.ErrMalformed
		}
		if out, e := Unwrap("", size); out != "" || e != want {
			t.Errorf("P1: size %d of no row: %q, %d, want %d", size, out, e, want)
		}
	}
	zeros := strings.Repeat("\x00", api.MaxOut)
	unwraps(t, "16777216 bytes", rowOf(pack(zeros, 6), zeros), zeros)
	isNoRow(t, "16777217 bytes", rowOf(pack(zeros+"\x00", 6), zeros+"\x00"), api.MaxOut)
}
