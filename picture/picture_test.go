package picture

import (
	"bytes"
	"compress/zlib"
	"errors"
	"fmt"
	"slices"
	"strings"
	"testing"

	"vellum/api"
	"vellum/fault"
	"vellum/given"
	"vellum/source"
)

func wrapped(s string) string {
	var out bytes.Buffer
	w := zlib.NewWriter(&out)
	w.Write([]byte(s))
	w.Close()
	return out.String()
}

const opening = "\x89PNG\r\n\x1a\n"

func headOf(width, height, depth, kind int) string {
	return opening + given.Chunk("IHDR", given.Four(width)+given.Four(height)+string([]byte{byte(depth), byte(kind), 0, 0, 0}))
}

var (
	last    = given.Chunk("IEND", "")
	entries = given.Chunk("PLTE", "abcdef")
	covers  = given.Chunk("tRNS", "ab")
	quiet   = given.Chunk("teXt", "say")
	indices = headOf(2, 1, 1, 3)
	// All that a picture may have.
	right = indices + quiet + entries + covers + quiet + given.Chunk("IDAT", "") + given.Chunk("IDAT", wrapped("\x00\x40")[:5]) + given.Chunk("IDAT", wrapped("\x00\x40")[5:]) + given.Chunk("IDAT", "") + quiet + last
)

func isMalformed(err error) bool {
	var malformed *fault.Malformed
	return errors.As(err, &malformed)
}

// Behind the last chunk it is asked just once whether there is more.
func TestPictureThatIsAllThatTheSourceHas(t *testing.T) {
	from := &given.Source{Text: right, Behind: fault.End}
	img, err := Read(from, 2)
	if err != nil || img.Width != 2 || img.Height != 1 || len(img.Pix) != 8 {
		t.Errorf("%+v, %v", img, err)
	}
	if from.Asked != len(right)+1 {
		t.Errorf("asked %d times for %d bytes", from.Asked, len(right))
	}
}

// A picture that is right so far is not settled by then, wherever the source
// fails, or ends.
func TestSourceThatFailsOrEndsAnywhere(t *testing.T) {
	for n := range len(right) + 1 {
		img, err := Read(&given.Source{Text: right[:n], Behind: fault.Failed}, 2)
		if !errors.Is(err, fault.Failed) || fault.Errno(err) != api.ErrSource || img.Pix != nil {
			t.Errorf("it fails behind %d bytes: %v", n, err)
		}
		img, err = Read(&given.Source{Text: right[:n], Behind: fault.End}, 2)
		if n < len(right) && (!isMalformed(err) || img.Pix != nil) {
			t.Errorf("it ends behind %d bytes: %v", n, err)
		}
	}
}

// Nothing is asked for behind the first chunk of a picture that is too large.
func TestTooLargeIsToldBehindTheFirstChunk(t *testing.T) {
	from := &given.Source{Text: indices, Behind: fault.Failed}
	img, err := Read(from, 1)
	if !errors.Is(err, fault.TooLarge) || fault.Errno(err) != api.ErrTooLarge || img.Pix != nil || from.Asked != len(indices) {
		t.Errorf("%v, asked %d times", err, from.Asked)
	}
	for n := range len(indices) {
		if _, err := Read(&given.Source{Text: indices[:n], Behind: fault.Failed}, 1); !errors.Is(err, fault.Failed) {
			t.Errorf("it fails behind %d bytes: %v", n, err)
		}
	}
	wrong := []byte(indices)
	wrong[len(wrong)-1] ^= 1
	if _, err := Read(&given.Source{Text: string(wrong), Behind: fault.Failed}, 1); !isMalformed(err) {
		t.Errorf("another sum of the first chunk: %v", err)
	}
}

// begun is a chunk of which only the count of bytes and the type have come.
func begun(name string, size int) string { return given.Four(size) + name }

// What is malformed is told as soon as it is read: the source fails right behind.
func TestMalformedIsToldAtOnce(t *testing.T) {
	grey := headOf(1, 1, 8, 0)
	rows := given.Chunk("IDAT", wrapped("\x00\x00"))
	for _, c := range []struct{ name, text string }{
		{"the first byte", "\x88"},
		{"another first chunk", opening + begun("t", 13)},
		{"another first chunk, by its last letter", opening + begun("IHDT", 13)},
		{"a first chunk of another size", opening + begun("", 14)},
		{"a first chunk of a great size", opening + "\x00\x01"},
		{"a second head", grey + begun("IH", 13)},
		{"an unknown capital", grey + begun("A", 5)},
		{"an unknown capital, by its last letter", grey + begun("PLTA", 5)},
		{"no rows", grey + begun("IE", 0)},
		{"entries of grey", grey + begun("PLTE", 3)},
		{"too many entries", indices + begun("PLTE", 9)},
		{"a second PLTE", indices + entries + begun("PLTE", 6)},
		{"a tRNS ahead of a PLTE", indices + begun("tRNS", 1)},
		{"a tRNS of another size", grey + begun("tRNS", 3)},
		{"a tRNS with a number that is no sample", grey + begun("tRNS", 2) + "\x01"},
		{"rows without entries", indices + begun("IDAT", 5)},
		{"no wrapped row", grey + begun("IDAT", 5) + "\x79"},
		{"a filter above 4", grey + begun("IDAT", 50) + "\x78\x01\x01\x02\x00\xfd\xff\x05"},
		{"an index without entry", indices + given.Chunk("PLTE", "abc") + begun("IDAT", 50) + "\x78\x01\x01\x02\x00\xfd\xff\x00\x80"},
		{"an index without entry, in the middle of a row", headOf(2, 1, 8, 3) + entries + begun("IDAT", 50) + "\x78\x01\x01\x03\x00\xfc\xff\x00\x02"},
		{"more bytes than the rows have", grey + begun("IDAT", 50) + "\x78\x01\x01\x03\x00"},
		{"fewer bytes than the rows have", grey + begun("IDAT", 50) + "\x78\x01\x01\x01\x00"},
		{"rows that end too early", grey + given.Chunk("IDAT", wrapped("\x00\x00")[:8]) + begun("t", 5)},
		{"rows that end too early, ahead of the last chunk", grey + given.Chunk("IDAT", wrapped("\x00\x00")[:8]) + begun("IE", 0)},
		{"a byte behind the rows", grey + begun("IDAT", len(wrapped("\x00\x00"))+1) + wrapped("\x00\x00")},
		{"a byte behind the rows, in another chunk", grey + rows + begun("IDAT", 1)},
		{"another chunk between the rows", grey + rows + quiet + begun("ID", 0)},
		{"a tRNS behind the rows", grey + rows + begun("tRNS", 2)},
		{"a PLTE behind the rows", indices + entries + given.Chunk("IDAT", wrapped("\x00\x40")) + begun("P", 6)},
		{"a last chunk with data", grey + rows + begun("IEND", 1)},
		{"a byte behind the last chunk", grey + rows + last + "x"},
	} {
		if img, err := Read(&given.Source{Text: c.text, Behind: fault.Failed}, 2); !isMalformed(err) || img.Pix != nil {
			t.Errorf("%s: %v", c.name, err)
		}
	}
}

// One layer is around the other: the chunk is the outermost one.
func TestWhereItWasIsTold(t *testing.T) {
	grey := headOf(1, 1, 8, 0)
	for _, c := range []struct{ text, want string }{
		{"x", "chunk -1: malformed: it does not begin as a picture does"},
		{grey + quiet + begun("ABCD", 0), "chunk 2: malformed: a type that may not stand here, which begins with A"},
		{grey + given.Chunk("IDAT", "\x78") + given.Chunk("IDAT", "\x01\x07"), "chunk 2: byte 3: block 0: bit 19: malformed: no block is of sort 3"},
		{grey + quiet + given.Chunk("IDAT", "\x78\x01\x01\x02\x00\xfd\xff\x05"), "chunk 2: byte 8: block 0: bit 64: row 0: malformed: a filter above 4"},
		{indices + given.Chunk("PLTE", "abc") + given.Chunk("IDAT", "\x78\x01\x01\x02\x00\xfd\xff\x00\x40"), "chunk 2: byte 9: block 0: bit 72: row 0: pixel 1: malformed: an index that has no entry"},
		{strings.TrimSuffix(right, last), "chunk 10: malformed: it ends too early"},
	} {
		if _, err := Read(&given.Source{Text: c.text, Behind: fault.End}, 2); err == nil || err.Error() != c.want {
			t.Errorf("%v, want %s", err, c.want)
		}
	}
	_, err := Read(&given.Source{Text: grey + begun("IDAT", 9) + "\x78\x01", Behind: fault.Failed}, 2)
	if err == nil || err.Error() != "chunk 1: byte 2: block 0: bit 16: the source has failed" {
		t.Errorf("%v", err)
	}
}

// Where a source failed is told by each layer; what kind of error it is can be
// asked through all of them.
func TestWhereASourceFailedIsTold(t *testing.T) {
	for _, c := range []struct {
		come   int // how many bytes come
		behind []int
		want   string
	}{
		{0, []int{-1}, "chunk -1: source byte 0: answer 0: the source has failed"},
		{12, []int{-1}, "chunk 0: source byte 12: answer 12: the source has failed"},
		{12, []int{0, 0, -1}, "chunk 0: source byte 12: answer 14: the source has failed"},
		{40, make([]int, 101), "chunk 1: source byte 40: no byte came 101 times: the source has failed"},
		{len(right) - 1, []int{-1}, fmt.Sprintf("chunk 10: source byte %d: answer %d: the source has failed", len(right)-1, len(right)-1)},
	} {
		script := append(slices.Repeat([]int{1}, c.come), c.behind...)
		_, err := Read(source.OneByOne(source.OfScript(right, script)), 2)
		if err == nil || err.Error() != c.want {
			t.Errorf("%v, want %s", err, c.want)
		}
		var place *fault.Place
		if !errors.Is(err, fault.Failed) || isMalformed(err) || errors.Is(err, fault.End) || !errors.As(err, &place) || place.Unit != "chunk" {
			t.Errorf("%v: another kind of error", err)
		}
	}
	rows := len(headOf(1, 1, 8, 0)) + 8
	text := headOf(1, 1, 8, 0) + given.Chunk("IDAT", "\x78\x01\x01\x02\x00\xfd\xff\x00\x01")
	_, err := Read(source.OneByOne(source.OfScript(text, append(slices.Repeat([]int{1}, rows+8), -1))), 2)
	if want := "chunk 1: byte 8: block 0: bit 64: source byte 49: answer 49: the source has failed"; err == nil || err.Error() != want {
		t.Errorf("%v, want %s", err, want)
	}
}
