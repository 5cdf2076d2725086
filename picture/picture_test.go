package picture

import (
	"bytes"
	"compress/zlib"
	"errors"
	"strings"
	"testing"

	"vellum/api"
	"vellum/fault"
	"vellum/given"
)

func wrapped(s string) string {
	var out bytes.Buffer
	w := zlib.NewWriter(&out)
	w.Write([]byte(s))
	w.Close()
	return out.String()
}

const opening = "\x89PNG\r\n\x1a\n"

func headOf(width, height, depth, kind int) string {
	return opening + given.Chunk("IHDR", given.Four(width)+given.Four(height)+string([]byte{byte(depth), byte(kind), 0, 0, 0}))
}

var (
	last    = given.Chunk("IEND", "")
	entries = given.Chunk("PLTE", "abcdef")
	covers  = given.Chunk("tRNS", "ab")
	quiet   = given.Chunk("teXt", "say")
	indices = headOf(2, 1, 1, 3)
	// All that a picture may have.
	right = indices + quiet + entries + covers + quiet + given.Chunk("IDAT", "") + given.Chunk("IDAT", wrapped("\x00\x40")[:5]) + given.Chunk("IDAT", wrapped("\x00\x40")[5:]) + given.Chunk("IDAT", "") + quiet + last
)

func isMalformed(err error) bool {
	var malformed *fault.Malformed
	return errors.As(err, &malformed)
}

// Behind the last chunk it is asked just once whether there is more.
func TestPictureThatIsAllThatTheSourceHas(t *testing.T) {
	from := &given.Source{Text: right, Behind: fault.End}
	img, err := Read(from, 2)
	if err != nil || img.Width != 2 || img.Height != 1 || len(img.Pix) != 8 {
		t.Errorf("%+v, %v", img, err)
	}
	if from.Asked != len(right)+1 {
		t.Errorf("asked %d times for %d bytes", from.Asked, len(right))
	}
}

// A picture that is right so far is not settled by then, wherever the source
// fails, or ends.
func TestSourceThatFailsOrEndsAnywhere(t *testing.T) {
	for n := range len(right) + 1 {
		img, err := Read(&given.Source{Text: right[:n], Behind: fault.Failed}, 2)
		if !errors.Is(err, fault.Failed) || fault.Errno(err) != api.ErrSource || img.Pix != nil {
			t.Errorf("it fails behind %d bytes: %v", n, err)
		}
		img, err = Read(&given.Source{Text: right[:n], Behind: fault.End}, 2)
		if n < len(right) && (!isMalformed(err) || img.Pix != nil) {
			t.Errorf("it ends behind %d bytes: %v", n, err)
		}
	}
}

// Nothing is asked for behind the first chunk of a picture that is too large.
func TestTooLargeIsToldBehindTheFirstChunk(t *testing.T) {
	from := &given.Source{Text: indices, Behind: fault.Failed}
	img, err := Read(from, 1)
	if !errors.Is(err, fault.TooLarge) || fault.Errno(err) != api.ErrTooLarge || img.Pix != nil || from.Asked != len(indices) {
		t.Errorf("%v, asked %d times", err, from.Asked)
	}
	for n := range len(indices) {
		if _, err := Read(&given.Source{Text: indices[:n], Behind: fault.Failed}, 1); !errors.Is(err, fault.Failed) {
			t.Errorf("it fails behind %d bytes: %v", n, err)
		}
	}
	wrong := []byte(indices)
	wrong[len(wrong)-1] ^= 1
	if _, err := Read(&given.Source{Text: string(wrong), Behind: fault.Failed}, 1); !isMalformed(err) {
		t.Errorf("another sum of the first chunk: %v", err)
	}
}

// begun is a chunk of which only the count of bytes and the type have come.
func begun(name string, size int) string { return given.Four(size) + name }

// What is malformed is told as soon as it is read: the source fails right behind.
func TestMalformedIsToldAtOnce(t *testing.T) {
	grey := headOf(1, 1, 8, 0)
	rows := given.Chunk("IDAT", wrapped("\x00\x00"))
	for _, c := range []struct{ name, text string }{
		{"the first byte", "\x88"},
		{"another first chunk", opening + begun("teXt", 13)},
		{"a first chunk of another size", opening + begun("IHDR", 14)},
		{"a second head", grey + begun("IHDR", 13)},
		{"an unknown capital", grey + begun("ABCD", 5)},
		{"no rows", grey + begun("IEND", 0)},
		{"entries of grey", grey + begun("PLTE", 3)},
		{"too many entries", indices + begun("PLTE", 9)},
		{"a second PLTE", indices + entries + begun("PLTE", 6)},
		{"a tRNS ahead of a PLTE", indices + begun("tRNS", 1)},
		{"a tRNS of another size", grey + begun("tRNS", 3)},
		{"a tRNS with a number that is no sample", grey + begun("tRNS", 2) + "\x01\x00"},
		{"rows without entries", indices + begun("IDAT", 5)},
		{"no wrapped row", grey + begun("IDAT", 5) + "\x79"},
		{"a filter above 4", grey + begun("IDAT", 50) + "\x78\x01\x01\x02\x00\xfd\xff\x05"},
		{"an index without entry", indices + given.Chunk("PLTE", "abc") + begun("IDAT", 50) + "\x78\x01\x01\x02\x00\xfd\xff\x00\x80"},
		{"more bytes than the rows have", grey + begun("IDAT", 50) + "\x78\x01\x01\x03\x00\xfc\xff"},
		{"rows that end too early", grey + given.Chunk("IDAT", wrapped("\x00\x00")[:8]) + begun("teXt", 5)},
		{"a byte behind the rows", grey + rows + begun("IDAT", 5) + "x"},
		{"another chunk between the rows", grey + rows + quiet + begun("IDAT", 0)},
		{"a tRNS behind the rows", grey + rows + begun("tRNS", 2)},
		{"a PLTE behind the rows", indices + entries + given.Chunk("IDAT", wrapped("\x00\x40")) + begun("PLTE", 6)},
		{"a last chunk with data", grey + rows + begun("IEND", 1)},
		{"a byte behind the last chunk", grey + rows + last + "x"},
	} {
		if img, err := Read(&given.Source{Text: c.text, Behind: fault.Failed}, 2); !isMalformed(err) || img.Pix != nil {
			t.Errorf("%s: %v", c.name, err)
		}
	}
}

// One layer is around the other: the chunk is the outermost one.
func TestWhereItWasIsTold(t *testing.T) {
	grey := headOf(1, 1, 8, 0)
	for _, c := range []struct{ text, want string }{
		{"x", "chunk -1: malformed: it does not begin as a picture does"},
		{grey + quiet + begun("ABCD", 0), "chunk 2: malformed: a chunk ABCD that may not stand here"},
		{grey + given.Chunk("IDAT", "\x78") + given.Chunk("IDAT", "\x01\x07"), "chunk 2: byte 3: block 0: bit 19: malformed: no block is of sort 3"},
		{grey + quiet + given.Chunk("IDAT", "\x78\x01\x01\x02\x00\xfd\xff\x05"), "chunk 2: byte 8: block 0: bit 64: row 0: malformed: a filter above 4"},
		{indices + given.Chunk("PLTE", "abc") + given.Chunk("IDAT", "\x78\x01\x01\x02\x00\xfd\xff\x00\x40"), "chunk 2: byte 9: block 0: bit 72: row 0: pixel 1: malformed: an index that has no entry"},
		{strings.TrimSuffix(right, last), "chunk 10: malformed: it ends too early"},
	} {
		if _, err := Read(&given.Source{Text: c.text, Behind: fault.End}, 2); err == nil || err.Error() != c.want {
			t.Errorf("%v, want %s", err, c.want)
		}
	}
	_, err := Read(&given.Source{Text: grey + begun("IDAT", 9) + "\x78\x01", Behind: fault.Failed}, 2)
	if err == nil || err.Error() != "chunk 1: byte 2: block 0: bit 16: the source has failed" {
		t.Errorf("%v", err)
	}
}
